/- Texts merged by program, in build order: RuleRun. -/
import Derived.Test.YtobicmpgfiddhaaDoorA01
import Derived.Test.YtobicmpgfiddhaaDoorRuleRef
import Derived.Test.YtobicmpgfiddhaaDoorA02
import Derived.Test.YtobicmpgfiddhaaDoorListSt
import Derived.Deep.RegionLaw
import Derived.Deep.RegionWith
import Derived.Deep.Cut
namespace Go.Proofs.YtobicmpgfiddhaaDoor
open Go.RowKit
set_option linter.unusedVariables false
set_option linter.unusedSimpArgs false

theorem good_len {r : RU} (h : r.good = true) : argsN r.op ≠ 0 ∧ r.args.length = argsN r.op ∧ 2 ≤ r.args.length ∧ r.args.length ≤ 3 ∧ (∀ x ∈ r.args, nameR x = true) ∧ ((r.op = opJoin ∨ r.op = opOnly) → r.args.length = 3) := by
  unfold RU.good at h
  simp only [Bool.and_eq_true, decide_eq_true_eq, List.all_eq_true] at h
  obtain ⟨⟨⟨h1, h2⟩, h3⟩, -⟩ := h
  have h4 : argsN r.op = 0 ∨ argsN r.op = 2 ∨ argsN r.op = 3 := by
    unfold argsN; split
    · exact .inr (.inl rfl)
    · split
      · exact .inr (.inr rfl)
      · exact .inl rfl
  refine ⟨h1, h2, by omega, by omega, h3, fun h => ?_⟩
  rw [h2]; unfold argsN
  rcases h with h | h <;> rw [h] <;> rfl
/-- a rule's words, as they lie -/
theorem words_at {w : World} {u : Value} {r : RU} (h : RdT w u r.words) (hg : r.good = true) : ∃ g o c, u = .slice (some ⟨g, o, none⟩) (r.args.length + 1) c ∧ g < w.heap.size ∧ w.cell? ⟨g, o, none⟩ = some (tv r.op) ∧ w.cell? ⟨g, o + 1, none⟩ = some (tv (r.args.getD 0 [])) ∧ w.cell? ⟨g, o + 2, none⟩ = some (tv (r.args.getD 1 [])) ∧
    (r.args.length = 3 → w.cell? ⟨g, o + 3, none⟩ = some (tv (r.args.getD 2 []))) := by
  obtain ⟨_, _, h2, h3, _, _⟩ := good_len hg
  obtain ⟨A, c, rfl⟩ := rdt_form h
  have hl : r.words.length = r.args.length + 1 := rfl
  have e : ∀ j (hj : j < r.args.length), r.args.getD j [] = r.args[j] := fun j hj => by rw [List.getD_eq_getElem?_getD, List.getElem?_eq_getElem hj]; rfl
  obtain ⟨g, o, rfl, hgs, c0⟩ := h.at 0 (by omega)
  have key : ∀ j (hj : j < r.args.length), w.cell? ⟨g, o + (j + 1), none⟩ = some (tv (r.args.getD j [])) := fun j hj => by
    obtain ⟨g', o', e2, _, c1⟩ := h.at (j + 1) (by omega)
    cases e2
    rw [e j hj]; exact c1
  refine ⟨g, o, c, by rw [hl], hgs, c0, key 0 (by omega), key 1 (by omega), fun h3 => key 2 (by omega)⟩
theorem str_is {O : ByteArray} {o : List UInt8} (h : tv o = .string O) (c : List UInt8) : (O.toList == c) = decide (o = c) := by
  unfold tv at h
  injection h with h
  rw [← h, ByteArray.toList_eq]
  show (o == c) = _
  by_cases e : o = c <;> simp [e]
/-- what Run holds at a rule: the claims, its answer, the object -/
structure RunAt (w W : World) (cs : List Value) (out : V) (ds : List Value) : Prop where
  low : Below w.heap.size w W
  size : w.heap.size + 3 ≤ W.heap.size
  b0 : W.heap[w.heap.size]? = some (.cells cs.toArray 25 (0, 0))
  b1 : W.heap[w.heap.size + 1]? = some (.cells #[.int .i64 0, .int .i64 0, .string ⟨#[]⟩, .slice none 0 0, .slice none 0 0] 25 (0, 0))
  b2 : W.heap[w.heap.size + 2]? = some (.cells ds.toArray 25 (0, 0))
  obj : OutIs W w.heap.size (w.heap.size + 3) out ds
theorem RunAt.later {w W W' : World} {cs ds : List Value} {out : V} (h : RunAt w W cs out ds) (hb : Below W.heap.size W W') : RunAt w W' cs out ds := by
  obtain ⟨h1, h2, h3, h4, h5, h6⟩ := h
  have hs := hb.size
  exact ⟨h1.chain hb, by omega, (hb.block _ (by omega)).trans h3, (hb.block _ (by omega)).trans h4, (hb.block _ (by omega)).trans h5, h6.below (by omega) hb⟩
theorem RunAt.store {w W : World} {cs ds : List Value} {out out' : V} (h : RunAt w W cs out ds) {c0 c1 c2 c3 c4 : Value} (ho : OutIs W w.heap.size (w.heap.size + 3) out' [c0, c1, c2, c3, c4]) :
    RunAt w (set5 W (w.heap.size + 2) 0 c0 c1 c2 c3 c4) cs out' [c0, c1, c2, c3, c4] := by
  obtain ⟨h1, h2, h3, h4, h5, h6⟩ := h
  obtain ⟨A, c, A', c', rfl⟩ := h6.form
  refine ⟨h1.trans (set5_below (by omega)), by rw [set5_size]; exact h2, (set5_there (by omega)).trans h3, (set5_there (by omega)).trans h4, ?_, ho.keep (fun p hp => World.cell?_of_block (w := W) (set5_there (by rcases hp with hp | hp <;> omega))) (by rw [set5_size]; exact Nat.le_refl _)⟩
  have := set5_here (o := 0) (c0 := c0) (c1 := c1) (c2 := c2) (c3 := c3) (c4 := c4) h5
  simpa using this
theorem runAt_start (w : World) (c0 c1 c2 c3 c4 : Value) : RunAt w (((w.alloc (.cells #[c0, c1, c2, c3, c4] 25)).alloc (.cells #[.int .i64 0, .int .i64 0, .string ⟨#[]⟩, .slice none 0 0, .slice none 0 0] 25)).alloc (.cells #[.int .i64 6, .int .i64 0, .string ⟨#[]⟩, .slice none 0 0, .slice none 0 0] 25)) [c0, c1, c2, c3, c4] emptyO [.int .i64 6, .int .i64 0, .string ⟨#[]⟩, .slice none 0 0, .slice none 0 0] := by
  have h1 := heap_alloc_last ((w.alloc (.cells #[c0, c1, c2, c3, c4] 25)).alloc (.cells #[.int .i64 0, .int .i64 0, .string ⟨#[]⟩, .slice none 0 0, .slice none 0 0] 25)) (.cells #[.int .i64 6, .int .i64 0, .string ⟨#[]⟩, .slice none 0 0, .slice none 0 0] 25)
  have h2 := alloc_block (x := .cells #[.int .i64 6, .int .i64 0, .string ⟨#[]⟩, .slice none 0 0, .slice none 0 0] 25) (heap_alloc_last (w.alloc (.cells #[c0, c1, c2, c3, c4] 25)) (.cells #[.int .i64 0, .int .i64 0, .string ⟨#[]⟩, .slice none 0 0, .slice none 0 0] 25))
  exact ⟨(((Below.refl _ _).alloc (Nat.le_refl _) _).alloc (by simp) _).alloc (by simp; omega) _, by simp, alloc_block (alloc_block (heap_alloc_last w _)), by simpa using h2, by simpa using h1, outIs_empty _ _ _⟩
attribute [local go_sem ↓] Go.wp_at_zero Go.wp_at_succ
set_option maxRecDepth 100000 in
theorem refWordR_any (t : ByteArray) (w : World) : Calls Tryd.prog 15 #[.string t] w fun e w' => e = .returned (.agg #[.int .i64 4, .int .i64 0, .string t, .slice none 0 0, .slice none 0 0]) ∧ Below w.heap.size w w' := by
  go_enter Tryd.func15, Tryd.ntmps15
  go_wp2
  refine bodyPost_ret (v := .agg #[.int .i64 4, .int .i64 0, .string t, .slice none 0 0, .slice none 0 0]) (by simp [results, Tryd.results15, go_sem]) rfl ?_
  exact ⟨rfl, (Below.refl _ _).alloc (Nat.le_refl _) _⟩
/-- a slice of one value, by its run -/
theorem build_one (a b : Int) (t : ByteArray) (A : Option Addr) (m c : Nat) (A' : Option Addr) (m' c' : Nat) (W : World) :
    (Instr.buildSlice 22 1 #[(0, .agg #[.int .i64 a, .int .i64 b, .string t, .slice A m c, .slice A' m' c'])]).run Tryd.prog W = .ok (.slice (some ⟨W.heap.size, 0, none⟩) 1 1) (W.alloc (.cells #[.int .i64 a, .int .i64 b, .string t, .slice A m c, .slice A' m' c'] 25)) := by
  go_simp
theorem wpList_build_run {P : Program} {ops : Array Oper} {rest : List Oper} {o : Oper} {a : Act} {w w' : World} {Q : Exit → Act → World → Prop} (hg : o.guard = none) (t : TypeId) (x : Operand) (ho : o.op = .buildSlice t 1 #[(0, x)])
    (u r : Value) (hx : a.eval x = u) (hrun : (Instr.buildSlice t 1 #[(0, u)]).run P w = .ok r w') (h : wpList P ops Q rest (a.put o.dst r) w') : wpList P ops Q (o :: rest) a w :=
  wpList_plain hg fun _ hK => by
    have hm : (#[(0, x)] : Array (Nat × Operand)).map (fun (i, x) => (i, a.eval x)) = #[(0, u)] := by simp [hx]
    unfold Oper.wp execOp
    simp only [ho, Sem.run_bind, hm, hrun, Result.andThen_ok]
    exact hK _ _ h
/-- a text that fits reads as it reads anywhere -/
theorem text_any {w : World} {L0 N0 d : Nat} {x : V} {cs : List Value} (h : VIs w L0 N0 x cs) (h4 : x.kind = 4) (hf : x.fits (d + 1) = true) (W : World) (L N : Nat) : VIs W L N x cs := by
  obtain ⟨k, n, t, l, ks⟩ := x
  have h4 : k = 4 := h4
  rw [fits_mk, Bool.and_eq_true] at hf
  have hb := hf.1
  unfold headB at hb
  simp only [Bool.and_eq_true, decide_eq_true_eq] at hb
  have hl : l = [] := List.length_eq_zero_iff.1 (hb.1.1.1.1.2 (by omega) (by omega))
  have hk : ks = [] := hb.1.2 (by omega)
  subst hl; subst hk
  obtain ⟨hr, A, c, A', c', rfl, -, -⟩ := h.out
  exact VIs.mk hr (.inl rfl) (.inl rfl)
theorem need_yes {w0 a b : Bool} (h : true = (w0 || (decide ((5 : Int) = 5) && a))) : true = (w0 || (a || b)) := by cases w0 <;> cases a <;> simp at h ⊢
theorem need_no {w0 a b : Bool} (h : false = (w0 || (decide ((5 : Int) = 5) && a))) : b = (w0 || (a || b)) := by cases w0 <;> cases a <;> simp at h ⊢
theorem take_any {α : Type} (l : List α) (q : Nat) (p : α → Bool) (x : α) (h : l[q]? = some x) : (l.take (q + 1)).any p = ((l.take q).any p || p x) := by
  rw [List.take_add_one, h, List.any_append]
  simp
set_option maxRecDepth 100000 in
theorem refIs_any (x : V) (s : List UInt8) (S : ByteArray) (hS : S = ⟨s.toArray⟩) (k n : Int) (t : ByteArray) (A : Option Addr) (a b : Nat) (A' : Option Addr) (a' b' : Nat) (hk : k = x.kind) (ht : t = ⟨x.text.toArray⟩) (w : World) :
    Calls Tryd.prog 26 #[.agg #[.int .i64 k, .int .i64 n, .string t, .slice A a b, .slice A' a' b'], .string S] w fun e w' => e = .returned (.bool (isW x s)) ∧ Below w.heap.size w w' := by
  have hq : (t.toList == S.toList) = decide (x.text = s) := by
    rw [ht, hS, ByteArray.toList_eq, ByteArray.toList_eq]
    show (x.text == s) = _
    by_cases h : x.text = s <;> simp [h]
  obtain ⟨RB, hRB⟩ : ∃ b, isW x s = b := ⟨_, rfl⟩
  have hres : RB = (decide (k = 4) && (t.toList == S.toList)) := by rw [← hRB, hq, hk]; rfl
  rw [hRB]
  have HRES := Lib.hid hres
  clear hq hRB hres hk ht hS
  by_cases h4 : k = 4
  · subst h4
    obtain ⟨c, hc⟩ : ∃ c, (t.toList == S.toList) = c := ⟨_, rfl⟩
    rw [hc] at HRES
    go_enter Tryd.func26, Tryd.ntmps26
    go_wp2
    go_ret
    exact ⟨ret_bool (by rw [HRES.out]; simp [hc]), (Below.refl _ _).alloc (Nat.le_refl _) _⟩
  · have h5 : (k == 4) = false := by simpa using h4
    have hr : RB = false := by rw [HRES.out, decide_eq_false h4]; rfl
    have HR := Lib.hid hr
    clear hr h4
    go_enter Tryd.func26, Tryd.ntmps26
    go_wp2
    go_ret
    exact ⟨ret_bool HR.out.symm, (Below.refl _ _).alloc (Nat.le_refl _) _⟩
/-- what Run answers -/
def RunSays (w : World) (R : Option V) (e : Ending) (w' : World) : Prop :=
  (∃ k n t A a b A' a' b', e = .returned (.tuple #[.agg #[.int .i64 k, .int .i64 n, .string t, .slice A a b, .slice A' a' b'], .bool R.isSome]) ∧ VIs w' 0 w'.heap.size (R.getD V.zero) [.int .i64 k, .int .i64 n, .string t, .slice A a b, .slice A' a' b']) ∧ Below w.heap.size w w'
set_option maxRecDepth 100000 in
set_option maxHeartbeats 40000000 in
theorem run_none {w W : World} (hb : Below w.heap.size w W) : RunSays w none (.returned (.tuple #[.agg #[.int .i64 0, .int .i64 0, .string ⟨#[]⟩, .slice none 0 0, .slice none 0 0], .bool false])) W :=
  ⟨⟨_, _, _, _, _, _, _, _, _, rfl, zero_isF _ _ _⟩, hb⟩
set_option maxRecDepth 100000 in
set_option maxHeartbeats 40000000 in
theorem refRun_any (A : Option Addr) (c : Nat) (rs : List RU) (hn : rs.length ≤ 64) (hg : ∀ r ∈ rs, r.good = true) (v : V) (cs : List Value) (hx : ∀ x ∈ v.list, x.text.length ≤ 1000000) (w : World) (h : RdX w (.slice A rs.length c) (rs.map RU.words)) (hv : VIs w 0 w.heap.size v cs) :
    Calls Tryd.prog 13 #[.slice A rs.length c, .agg cs.toArray] w fun e w' => RunSays w (runU rs v) e w' := by
  obtain ⟨R, hR⟩ : ∃ R, runU rs v = R := ⟨_, rfl⟩
  obtain ⟨n, hnn⟩ : ∃ n, rs.length = n := ⟨_, rfl⟩
  have hfits := fun W (hb : Below w.heap.size w W) => refFits_any v 8 W 0 w.heap.size cs (by decide) (hv.below hb) hb.size
  have hfield := fun W (hb : Below w.heap.size w W) key => refField_any v key W 0 w.heap.size cs (hv.below hb) hb.size
  obtain ⟨Ac, cc, Ac', cc', hcs⟩ := hv.form
  obtain ⟨vk, hvk⟩ : ∃ k, v.kind = k := ⟨_, rfl⟩
  obtain ⟨vn, hvn⟩ : ∃ k, v.num = k := ⟨_, rfl⟩
  obtain ⟨VT, hVT⟩ : ∃ T : ByteArray, T = ⟨v.text.toArray⟩ := ⟨_, rfl⟩
  obtain ⟨vl, hvl⟩ : ∃ k, v.list.length = k := ⟨_, rfl⟩
  obtain ⟨vs, hvs⟩ : ∃ k, v.keys.length = k := ⟨_, rfl⟩
  rw [hvk, hvn, ← hVT, hvl, hvs] at hcs
  rw [hR, hnn]
  have hno : vk ≠ 6 ∨ v.fits 8 = false → R = none := fun h => by
    rw [← hR]; unfold runU
    rw [if_neg (by rcases h with h | h <;> intro e <;> simp_all)]
  have HR := Lib.hid hR; have HG := Lib.hid hg; have HX := Lib.hid hx; have HRD := Lib.hid h; have HV := Lib.hid hv; have HN := Lib.hid hnn; have HFI := Lib.hid hfield; have HVK := Lib.hid hvk; have HNO := Lib.hid hno
  subst hcs
  have HFT := Lib.hid hfits
  clear hfits hfield hR hg hx h hv hVT hvl hvs hvn hno
  by_cases hk : vk = 6
  · subst hk
    obtain ⟨F, hF⟩ : ∃ F, v.fits 8 = F := ⟨_, rfl⟩
    rw [hF] at HFT HNO
    cases F with
    | false =>
      obtain rfl := HNO.out (.inr rfl)
      have ST := runAt_start w (.int .i64 6) (.int .i64 vn) (.string VT) (.slice Ac vl cc) (.slice Ac' vs cc')
      obtain ⟨W3, hW3⟩ : ∃ W3, ((w.alloc (.cells #[.int .i64 6, .int .i64 vn, .string VT, .slice Ac vl cc, .slice Ac' vs cc'] 25)).alloc (.cells #[.int .i64 0, .int .i64 0, .string ⟨#[]⟩, .slice none 0 0, .slice none 0 0] 25)).alloc (.cells #[.int .i64 6, .int .i64 0, .string ⟨#[]⟩, .slice none 0 0, .slice none 0 0] 25) = W3 := ⟨_, rfl⟩
      rw [hW3] at ST
      have HST := Lib.hid ST; have HW3 := Lib.hid hW3
      clear ST hW3 HNO
      go_enter Tryd.func13, Tryd.ntmps13
      go_wp2_with fail
      rw [HW3.out]
      refine (HFT.out _ HST.out.low).mono ?_
      rintro e w1 ⟨rfl, hb1⟩
      have ST1 := HST.out.later hb1
      have HS1 := Lib.hid ST1
      obtain ⟨⟨p0, p1, p2, p3, p4⟩, q0, q1, q2, q3, q4⟩ := box_of ST1.b1
      have hzb := set5_here (o := 0) (c0 := .int .i64 0) (c1 := .int .i64 0) (c2 := .string ⟨#[]⟩) (c3 := .slice none 0 0) (c4 := .slice none 0 0) ST1.b1
      obtain ⟨wf, hwf⟩ : ∃ wf, wf = set5 w1 (w.heap.size + 1) 0 (.int .i64 0) (.int .i64 0) (.string ⟨#[]⟩) (.slice none 0 0) (.slice none 0 0) := ⟨_, rfl⟩
      have hbf : Below w.heap.size w wf := by rw [hwf]; exact ST1.low.trans (set5_below (by omega))
      rw [← hwf] at hzb
      obtain ⟨⟨y0, y1, y2, y3, y4⟩, -⟩ := box_of (by simpa using hzb)
      have HBF := Lib.hid hbf; have HWF := Lib.hid hwf
      clear ST1 hb1 hbf hwf hzb
      dsimp only
      go_wp2_with fail
      change bodyPost _ _ _ _ _ (set5 w1 (w.heap.size + 1) 0 (.int .i64 0) (.int .i64 0) (.string ⟨#[]⟩) (.slice none 0 0) (.slice none 0 0))
      rw [← HWF.out]
      refine bodyPost_ret (v := .tuple #[.agg #[.int .i64 0, .int .i64 0, .string ⟨#[]⟩, .slice none 0 0, .slice none 0 0], .bool false]) (by simp [results, Tryd.results13, go_sem, y0, y1, y2, y3, y4]) rfl ?_
      exact run_none HBF.out
    | true =>
      clear HNO
      have ST := runAt_start w (.int .i64 6) (.int .i64 vn) (.string VT) (.slice Ac vl cc) (.slice Ac' vs cc')
      obtain ⟨W3, hW3⟩ : ∃ W3, ((w.alloc (.cells #[.int .i64 6, .int .i64 vn, .string VT, .slice Ac vl cc, .slice Ac' vs cc'] 25)).alloc (.cells #[.int .i64 0, .int .i64 0, .string ⟨#[]⟩, .slice none 0 0, .slice none 0 0] 25)).alloc (.cells #[.int .i64 6, .int .i64 0, .string ⟨#[]⟩, .slice none 0 0, .slice none 0 0] 25) = W3 := ⟨_, rfl⟩
      rw [hW3] at ST
      have HST := Lib.hid ST; have HW3 := Lib.hid hW3
      clear ST hW3
      go_enter Tryd.func13, Tryd.ntmps13
      go_wp2_with fail
      rw [HW3.out]
      refine (HFT.out _ HST.out.low).mono ?_
      rintro e w1 ⟨rfl, hb1⟩
      have ST1 := HST.out.later hb1
      have HS1 := Lib.hid ST1
      clear ST1 hb1
      dsimp only
      go_wp2_with fail
      go_loopw [7] (fun i W => ∃ (k : Nat) (out : V) (ds : List Value), k ≤ n ∧ i = .int .i64 k ∧ foldU v emptyO (rs.take k) = some out ∧ RunAt w W [.int .i64 6, .int .i64 vn, .string VT, .slice Ac vl cc, .slice Ac' vs cc'] out ds) (fun i _ => n - (intOf i).toNat)
      case atStart => exact ⟨0, _, _, Nat.zero_le _, rfl, rfl, HS1.out⟩
      case round =>
        obtain ⟨k, out, ds, hk, rfl, hfo, st⟩ := hrel
        obtain ⟨p0, p1, p2, p3, p4⟩ := (box_of st.b0).1
        obtain ⟨Ad, cd, Ad', cd', rfl⟩ := st.obj.form
        have S0 := Lib.hid st; have HFO := Lib.hid hfo
        have hw3 := st.size
        clear st hfo
        by_cases hlt : k < n
        · have hkl : k < rs.length := by have := HN.out; omega
          have hkr : decide ((k : Int) < n) = true := by simp; omega
          have hk0 : (0 : Int) ≤ k := by omega
          have hk1 : (k : Int) < n := by omega
          obtain ⟨g, o, u, rfl, hgs0, c10, hu⟩ := HRD.out.at k (by rw [List.length_map]; exact hkl)
          have c1 := (S0.out.low.cell (p := ⟨g, o + k, none⟩) hgs0).trans c10
          rw [List.getElem_map] at hu
          obtain ⟨r, hr⟩ : ∃ r, rs[k] = r := ⟨_, rfl⟩
          have hgr := HG.out _ (List.getElem_mem hkl)
          rw [hr] at hu hgr
          obtain ⟨g2, o2, c2, rfl, hgw, d00, d10, d20, d30⟩ := words_at hu hgr
          have hg2 : g2 < wr.heap.size := by omega
          have d0 := (S0.out.low.cell (p := ⟨g2, o2, none⟩) hgw).trans d00
          have d1 := (S0.out.low.cell (p := ⟨g2, o2 + 1, none⟩) hgw).trans d10
          have d2 := (S0.out.low.cell (p := ⟨g2, o2 + 2, none⟩) hgw).trans d20
          have d3 := fun h => (S0.out.low.cell (p := ⟨g2, o2 + 3, none⟩) hgw).trans (d30 h)
          clear d00 d10 d20 d30 c10
          obtain ⟨_, _, hl2, hl3, hnm, hj3⟩ := good_len hgr
          obtain ⟨m, hm⟩ : ∃ m, r.args.length + 1 = m := ⟨_, rfl⟩
          obtain ⟨OP, hOP⟩ : ∃ O : ByteArray, tv r.op = .string O := ⟨_, rfl⟩
          obtain ⟨K0, hK0⟩ : ∃ O : ByteArray, O = ⟨(r.args.getD 0 []).toArray⟩ := ⟨_, rfl⟩
          obtain ⟨K1, hK1⟩ : ∃ O : ByteArray, O = ⟨(r.args.getD 1 []).toArray⟩ := ⟨_, rfl⟩
          rw [hm] at c1
          rw [hOP] at d0
          unfold tv at d1 d2
          rw [← hK0] at d1
          rw [← hK1] at d2
          have hm2 : (2 : Int) < m := by omega
          have hm1 : (1 : Int) < m := by omega
          have hm0 : (0 : Int) < m := by omega
          have hf := fun W hb => HFI.out W hb (r.args.getD 1 [])
          rw [← hK1] at hf
          have HF := Lib.hid hf
          have D : ∀ W, Below wr.heap.size wr W → ((W.cell? ⟨w.heap.size, 0, none⟩ = some (.int .i64 6) ∧ W.cell? ⟨w.heap.size, 1, none⟩ = some (.int .i64 vn) ∧ W.cell? ⟨w.heap.size, 2, none⟩ = some (.string VT) ∧ W.cell? ⟨w.heap.size, 3, none⟩ = some (.slice Ac vl cc) ∧ W.cell? ⟨w.heap.size, 4, none⟩ = some (.slice Ac' vs cc')) ∧ W.cell? ⟨g2, o2 + 2, none⟩ = some (.string K1)) := fun W hb =>
            ⟨(box_of (S0.out.later hb).b0).1, (hb.cell (p := ⟨g2, o2 + 2, none⟩) hg2).trans d2⟩
          have hyes : ∀ o', stepR v out r = some o' → foldU v emptyO (rs.take (k + 1)) = some o' := fun o' h => by
            rw [List.take_succ_eq_append_getElem hkl, hr, foldU_snoc, HFO.out]; exact h
          have hnone : stepR v out r = none → R = none := fun h => by
            have e : rs = rs.take (k + 1) ++ rs.drop (k + 1) := (List.take_append_drop _ _).symm
            have e2 : foldU v emptyO (rs.take (k + 1)) = none := by
              rw [List.take_succ_eq_append_getElem hkl, hr, foldU_snoc, HFO.out]; exact h
            rw [← HR.out]; unfold runU
            rw [if_pos ⟨HVK.out, hF⟩, e]
            exact foldU_none _ _ _ _ e2
          have hout : OutR out k := by
            have := fold_out hF (rs.take k) emptyO out 0 outR_empty (fun x hx => HG.out x (List.mem_of_mem_take hx)) HFO.out
            rwa [List.length_take, Nat.zero_add, Nat.min_eq_left (by omega)] at this
          have hokl : out.keys.length ≤ 100000 := by
            obtain ⟨l, ks, rfl, _, h3, _⟩ := hout.form
            show ks.length ≤ _
            have := HN.out; omega
          have hokz : ∀ y ∈ out.keys, y.length ≤ 9223372036854775807 := by
            obtain ⟨l, ks, rfl, _, _, _, _, h6⟩ := hout.form
            intro y hy
            have h7 := (h6 y hy).1
            unfold nameR at h7
            simp only [Bool.and_eq_true, decide_eq_true_eq] at h7
            omega
          have hnl : ∀ j, j < r.args.length → (r.args.getD j []).length ≤ 32 := fun j hj => by
            have e : r.args.getD j [] = r.args[j] := by rw [List.getD_eq_getElem?_getD, List.getElem?_eq_getElem hj]; rfl
            have h7 := hnm _ (List.getElem_mem hj)
            rw [e]
            unfold nameR at h7
            simp only [Bool.and_eq_true, decide_eq_true_eq] at h7
            omega
          have hput := fun W (st : RunAt w W [.int .i64 6, .int .i64 vn, .string VT, .slice Ac vl cc, .slice Ac' vs cc'] out [.int .i64 6, .int .i64 0, .string ⟨#[]⟩, .slice Ad out.list.length cd, .slice Ad' out.keys.length cd']) x x0 x1 x2 x3 x4 hx => refPut_out st.obj (by have := st.size; omega) st.size (r.args.getD 0 []) x x0 x1 x2 x3 x4 hokl hokz (by have := hnl 0 (by omega); omega) hx
          rw [← hK0] at hput
          have HYES := Lib.hid hyes; have HNONE := Lib.hid hnone; have HPUT := Lib.hid hput; have HNL := Lib.hid hnl
          clear hyes hnone hput hout hokl hokz hnl
          have HD := Lib.hid D; have D0 := Lib.hid d0; have D1 := Lib.hid d1; have D3 := Lib.hid d3; have HR2 := Lib.hid hr; have HGR := Lib.hid hgr; have HOP := Lib.hid hOP; have HK0 := Lib.hid hK0; have HK1 := Lib.hid hK1; have HJ3 := Lib.hid hj3; have HNM := Lib.hid hnm
          clear hf D hu hr hgr hOP hK0 hK1 hj3 hnm d0 d1 d3
          go_upto_region 8 with fail
          go_cut [9, 10] (fun s9 s10 wx => ∃ p fk fn ft fA fa fb fA' fa' fb', s9 = .pointer (some ⟨p, 0, none⟩) ∧ s10 = .bool (fieldV (r.args.getD 1 []) v).isSome ∧ wr.heap.size ≤ p ∧ wx.heap[p]? = some (.cells #[.int .i64 fk, .int .i64 fn, .string ft, .slice fA fa fb, .slice fA' fa' fb'] 25 (0, 0)) ∧ VIs wx 0 w.heap.size ((fieldV (r.args.getD 1 []) v).getD V.zero) [.int .i64 fk, .int .i64 fn, .string ft, .slice fA fa fb, .slice fA' fa' fb'] ∧ Below wr.heap.size wr wx)
          case first => as_aux_lemma =>
            refine wp_region_held_drew (S := (fun W => ((W.cell? ⟨w.heap.size, 0, none⟩ = some (.int .i64 6) ∧ W.cell? ⟨w.heap.size, 1, none⟩ = some (.int .i64 vn) ∧ W.cell? ⟨w.heap.size, 2, none⟩ = some (.string VT) ∧ W.cell? ⟨w.heap.size, 3, none⟩ = some (.slice Ac vl cc) ∧ W.cell? ⟨w.heap.size, 4, none⟩ = some (.slice Ac' vs cc')) ∧ W.cell? ⟨g2, o2 + 2, none⟩ = some (.string K1)))) (by kernel_rfl) (HD.out _ (Below.refl _ _).drew) (fun hHeld => ?_)
            refine wpAnyH_take (i := 0) (oi := _) (v := ?v1001) (by simp only [List.getElem?_toArray, List.getElem?_cons_succ, List.getElem?_cons_zero]; rfl) (by kernel_rfl) (by kernel_rfl) (by kernel_rfl) (by exact fun _ _ _ h => h) (Or.inl ⟨by rfl, ?hy1001⟩) (by assumption) ?rest1001
            case hy1001 => (intro w hSw; (try dsimp only at hSw); go_simp; try with_reducible rfl)
            try simp only [Act.put, List.setIfInBounds_toArray, List.set_cons_zero, List.set_cons_succ]
            refine wpAnyH_take (i := 1) (oi := _) (v := ?v1002) (by simp only [List.getElem?_toArray, List.getElem?_cons_succ, List.getElem?_cons_zero]; rfl) (by kernel_rfl) (by kernel_rfl) (by kernel_rfl) (by exact fun _ _ _ h => h) (Or.inl ⟨by rfl, ?hy1002⟩) (by assumption) ?rest1002
            case hy1002 => (intro w hSw; (try dsimp only at hSw); go_simp; try with_reducible rfl)
            try simp only [Act.put, List.setIfInBounds_toArray, List.set_cons_zero, List.set_cons_succ]
            refine wpAnyH_take (i := 2) (oi := _) (v := ?v1003) (by simp only [List.getElem?_toArray, List.getElem?_cons_succ, List.getElem?_cons_zero]; rfl) (by kernel_rfl) (by kernel_rfl) (by kernel_rfl) (by exact fun _ _ _ h => h) (Or.inl ⟨by rfl, ?hy1003⟩) (by assumption) ?rest1003
            case hy1003 => (intro w hSw; (try dsimp only at hSw); go_simp; try with_reducible rfl)
            try simp only [Act.put, List.setIfInBounds_toArray, List.set_cons_zero, List.set_cons_succ]
            refine wpAnyH_take (i := 3) (oi := _) (v := ?v1004) (by simp only [List.getElem?_toArray, List.getElem?_cons_succ, List.getElem?_cons_zero]; rfl) (by kernel_rfl) (by kernel_rfl) (by kernel_rfl) (by exact fun _ _ _ h => h) (Or.inl ⟨by rfl, ?hy1004⟩) (by assumption) ?rest1004
            case hy1004 => (intro w hSw; (try dsimp only at hSw); go_simp; try with_reducible rfl)
            try simp only [Act.put, List.setIfInBounds_toArray, List.set_cons_zero, List.set_cons_succ]
            refine wpAnyH_ready (rs := [4, 8]) (by kernel_rfl) (by simp) ?_
            refine AllReadyH.cons (o := _) (by simp only [List.getElem?_toArray, List.getElem?_cons_succ, List.getElem?_cons_zero]; rfl) (fun K hK => ?_) (AllReadyH.cons (o := _) (by simp only [List.getElem?_toArray, List.getElem?_cons_succ, List.getElem?_cons_zero]; rfl) (fun K hK => ?_) AllReadyH.nil)
            · go_simp
              go_at_call 17
              (with_reducible refine (HF.out _ (S0.out.low.chain (Below.refl _ _).drew)).mono ?_)
              rintro e wx ⟨⟨fk, fn, ft, fA, fa, fb, fA', fa', fb', rfl, hvx⟩, hbx⟩
              have hbx' := below_drew2 _ _ hbx
              have HBX := Lib.hid hbx'; have HVX := Lib.hid hvx
              clear hbx hbx' hvx
              dsimp only
              refine hK.out _ _ (HD.out wx HBX.out) (fun hHeld => ?_)
              clear hK K
              try simp only [Act.put, List.setIfInBounds_toArray, List.set_cons_zero, List.set_cons_succ]
              refine wpAnyH_take (i := 5) (oi := _) (v := ?v1006) (by simp only [List.getElem?_toArray, List.getElem?_cons_succ, List.getElem?_cons_zero]; rfl) (by kernel_rfl) (by kernel_rfl) (by kernel_rfl) (by exact fun _ _ _ h => h) (Or.inl ⟨by rfl, ?hy1006⟩) (by assumption) ?rest1006
              case hy1006 => (intro w hSw; (try dsimp only at hSw); go_simp; try with_reducible rfl)
              try simp only [Act.put, List.setIfInBounds_toArray, List.set_cons_zero, List.set_cons_succ]
              refine wpAnyH_take (i := 6) (oi := _) (v := ?v1007) (by simp only [List.getElem?_toArray, List.getElem?_cons_succ, List.getElem?_cons_zero]; rfl) (by kernel_rfl) (by kernel_rfl) (by kernel_rfl) (by exact fun _ _ _ h => h) (Or.inl ⟨by rfl, ?hy1007⟩) (by assumption) ?rest1007
              case hy1007 => (intro w hSw; (try dsimp only at hSw); go_simp; try with_reducible rfl)
              try simp only [Act.put, List.setIfInBounds_toArray, List.set_cons_zero, List.set_cons_succ]
              refine wpAnyH_take (i := 7) (oi := _) (v := ?v1008) (by simp only [List.getElem?_toArray, List.getElem?_cons_succ, List.getElem?_cons_zero]; rfl) (by kernel_rfl) (by kernel_rfl) (by kernel_rfl) (by exact fun _ _ _ h => h) (Or.inl ⟨by rfl, ?hy1008⟩) (by assumption) ?rest1008
              case hy1008 => (intro w hSw; (try dsimp only at hSw); go_simp; try with_reducible rfl)
              try simp only [Act.put, List.setIfInBounds_toArray, List.set_cons_zero, List.set_cons_succ]
              refine wpAnyH_ready (rs := [8]) (by kernel_rfl) (by simp) ?_
              refine AllReadyH.cons (o := _) (by simp only [List.getElem?_toArray, List.getElem?_cons_succ, List.getElem?_cons_zero]; rfl) (fun K hK => ?_) AllReadyH.nil
              go_simp
              have HBA := Lib.hid (HBX.out.alloc HBX.out.size (.cells #[.int .i64 0, .int .i64 0, .string ⟨#[]⟩, .slice none 0 0, .slice none 0 0] 25))
              obtain ⟨⟨z0, z1, z2, z3, z4⟩, y0, y1, y2, y3, y4⟩ := box_of (heap_alloc_last wx (.cells #[.int .i64 0, .int .i64 0, .string ⟨#[]⟩, .slice none 0 0, .slice none 0 0] 25))
              refine hK.out _ _ (HD.out _ HBA.out) (fun hHeld => ?_)
              clear hK K
              try simp only [Act.put, List.setIfInBounds_toArray, List.set_cons_zero, List.set_cons_succ]
              refine wpAnyH_ready (rs := [9]) (by kernel_rfl) (by simp) ?_
              refine AllReadyH.cons (o := _) (by simp only [List.getElem?_toArray, List.getElem?_cons_succ, List.getElem?_cons_zero]; rfl) (fun K hK => ?_) AllReadyH.nil
              go_simp
              refine hK.out _ _ (HD.out _ (HBX.out.alloc HBX.out.size _)) (fun hHeld => ?_)
              clear hK K
              try simp only [Act.put, List.setIfInBounds_toArray, List.set_cons_zero, List.set_cons_succ]
              refine wpAnyH_ready (rs := [10]) (by kernel_rfl) (by simp) ?_
              refine AllReadyH.cons (o := _) (by simp only [List.getElem?_toArray, List.getElem?_cons_succ, List.getElem?_cons_zero]; rfl) (fun K hK => ?_) AllReadyH.nil
              go_simp
              refine hK.out _ _ (HD.out _ (HBX.out.alloc HBX.out.size _)) (fun hHeld => ?_)
              clear hK K
              try simp only [Act.put, List.setIfInBounds_toArray, List.set_cons_zero, List.set_cons_succ]
              refine wpAnyH_done (by kernel_rfl) ?_ _
              go_wp2_with fail
              go_meet
              first
                | exact ⟨_, _, _, _, _, _, _, _, _, _, rfl, rfl, HBX.out.size, heap_alloc_last wx _, HVX.out.below (((Below.refl _ _).alloc (Nat.le_refl _) _).mono (by have := HBX.out.size; omega)), HBX.out.alloc HBX.out.size _⟩
                | exact ⟨_, _, _, _, _, _, _, _, _, _, rfl, rfl, Nat.le_refl _, (show (set5 wx wr.heap.size 0 (.int .i64 fk) (.int .i64 fn) (.string ft) (.slice fA fa fb) (.slice fA' fa' fb')).heap[wr.heap.size]? = some (.cells #[.int .i64 fk, .int .i64 fn, .string ft, .slice fA fa fb, .slice fA' fa' fb'] 25 (0, 0)) from by simpa using set5_here (o := 0) (c0 := .int .i64 fk) (c1 := .int .i64 fn) (c2 := .string ft) (c3 := .slice fA fa fb) (c4 := .slice fA' fa' fb') Z5.out), HVX.out.below (set5_below (B := w.heap.size) (w := wx) (b := wr.heap.size) (by omega)), HBX.out.trans (set5_below (Nat.le_refl _))⟩
            · go_simp
              have HQA := Lib.hid ((Below.refl wr.heap.size wr).alloc (Nat.le_refl _) (.cells #[.int .i64 0, .int .i64 0, .string ⟨#[]⟩, .slice none 0 0, .slice none 0 0] 25)).drew
              refine hK.out _ _ (HD.out _ HQA.out) (fun hHeld => ?_)
              clear hK K
              try simp only [Act.put, List.setIfInBounds_toArray, List.set_cons_zero, List.set_cons_succ]
              refine wpAnyH_ready (rs := [4]) (by kernel_rfl) (by simp) ?_
              refine AllReadyH.cons (o := _) (by simp only [List.getElem?_toArray, List.getElem?_cons_succ, List.getElem?_cons_zero]; rfl) (fun K hK => ?_) AllReadyH.nil
              go_simp
              go_at_call 17
              (with_reducible refine (HF.out _ (S0.out.low.chain HQA.out)).mono ?_)
              rintro e wx ⟨⟨fk, fn, ft, fA, fa, fb, fA', fa', fb', rfl, hvx⟩, hbx⟩
              have hbx' := HQA.out.chain hbx
              have z5 : wx.heap[wr.heap.size]? = some (.cells #[.int .i64 0, .int .i64 0, .string ⟨#[]⟩, .slice none 0 0, .slice none 0 0] 25 (0, 0)) := blk_below (drew_block (heap_alloc_last wr _)) hbx
              obtain ⟨⟨z0, z1, z2, z3, z4⟩, y0, y1, y2, y3, y4⟩ := box_of z5
              have Z5 := Lib.hid z5
              have HBX := Lib.hid hbx'; have HVX := Lib.hid hvx
              clear hbx hbx' hvx z5
              dsimp only
              refine hK.out _ _ (HD.out wx HBX.out) (fun hHeld => ?_)
              clear hK K
              try simp only [Act.put, List.setIfInBounds_toArray, List.set_cons_zero, List.set_cons_succ]
              refine wpAnyH_take (i := 5) (oi := _) (v := ?v1013) (by simp only [List.getElem?_toArray, List.getElem?_cons_succ, List.getElem?_cons_zero]; rfl) (by kernel_rfl) (by kernel_rfl) (by kernel_rfl) (by exact fun _ _ _ h => h) (Or.inl ⟨by rfl, ?hy1013⟩) (by assumption) ?rest1013
              case hy1013 => (intro w hSw; (try dsimp only at hSw); go_simp; try with_reducible rfl)
              try simp only [Act.put, List.setIfInBounds_toArray, List.set_cons_zero, List.set_cons_succ]
              refine wpAnyH_take (i := 6) (oi := _) (v := ?v1014) (by simp only [List.getElem?_toArray, List.getElem?_cons_succ, List.getElem?_cons_zero]; rfl) (by kernel_rfl) (by kernel_rfl) (by kernel_rfl) (by exact fun _ _ _ h => h) (Or.inl ⟨by rfl, ?hy1014⟩) (by assumption) ?rest1014
              case hy1014 => (intro w hSw; (try dsimp only at hSw); go_simp; try with_reducible rfl)
              try simp only [Act.put, List.setIfInBounds_toArray, List.set_cons_zero, List.set_cons_succ]
              refine wpAnyH_take (i := 7) (oi := _) (v := ?v1015) (by simp only [List.getElem?_toArray, List.getElem?_cons_succ, List.getElem?_cons_zero]; rfl) (by kernel_rfl) (by kernel_rfl) (by kernel_rfl) (by exact fun _ _ _ h => h) (Or.inl ⟨by rfl, ?hy1015⟩) (by assumption) ?rest1015
              case hy1015 => (intro w hSw; (try dsimp only at hSw); go_simp; try with_reducible rfl)
              try simp only [Act.put, List.setIfInBounds_toArray, List.set_cons_zero, List.set_cons_succ]
              refine wpAnyH_ready (rs := [9]) (by kernel_rfl) (by simp) ?_
              refine AllReadyH.cons (o := _) (by simp only [List.getElem?_toArray, List.getElem?_cons_succ, List.getElem?_cons_zero]; rfl) (fun K hK => ?_) AllReadyH.nil
              go_simp
              refine hK.out _ _ (HD.out _ (HBX.out.trans (set5_below (Nat.le_refl _)))) (fun hHeld => ?_)
              clear hK K
              try simp only [Act.put, List.setIfInBounds_toArray, List.set_cons_zero, List.set_cons_succ]
              refine wpAnyH_ready (rs := [10]) (by kernel_rfl) (by simp) ?_
              refine AllReadyH.cons (o := _) (by simp only [List.getElem?_toArray, List.getElem?_cons_succ, List.getElem?_cons_zero]; rfl) (fun K hK => ?_) AllReadyH.nil
              go_simp
              refine hK.out _ _ (HD.out _ (HBX.out.trans (set5_below (Nat.le_refl _)))) (fun hHeld => ?_)
              clear hK K
              try simp only [Act.put, List.setIfInBounds_toArray, List.set_cons_zero, List.set_cons_succ]
              refine wpAnyH_done (by kernel_rfl) ?_ _
              go_wp2_with fail
              go_meet
              first
                | exact ⟨_, _, _, _, _, _, _, _, _, _, rfl, rfl, HBX.out.size, heap_alloc_last wx _, HVX.out.below (((Below.refl _ _).alloc (Nat.le_refl _) _).mono (by have := HBX.out.size; omega)), HBX.out.alloc HBX.out.size _⟩
                | exact ⟨_, _, _, _, _, _, _, _, _, _, rfl, rfl, Nat.le_refl _, (show (set5 wx wr.heap.size 0 (.int .i64 fk) (.int .i64 fn) (.string ft) (.slice fA fa fb) (.slice fA' fa' fb')).heap[wr.heap.size]? = some (.cells #[.int .i64 fk, .int .i64 fn, .string ft, .slice fA fa fb, .slice fA' fa' fb'] 25 (0, 0)) from by simpa using set5_here (o := 0) (c0 := .int .i64 fk) (c1 := .int .i64 fn) (c2 := .string ft) (c3 := .slice fA fa fb) (c4 := .slice fA' fa' fb') Z5.out), HVX.out.below (set5_below (B := w.heap.size) (w := wx) (b := wr.heap.size) (by omega)), HBX.out.trans (set5_below (Nat.le_refl _))⟩
          case rest =>
            obtain ⟨p, fk, fn, ft, fA, fa, fb, fA', fa', fb', rfl, rfl, hp, hbox, hvx, hbc⟩ := hcut
            have S1 := S0.out.later hbc
            have e0 := (hbc.cell (p := ⟨g2, o2, none⟩) hg2).trans D0.out
            have e1 := (hbc.cell (p := ⟨g2, o2 + 1, none⟩) hg2).trans D1.out
            have e2 := (hbc.cell (p := ⟨g2, o2 + 2, none⟩) hg2).trans d2
            have e3 := fun h => (hbc.cell (p := ⟨g2, o2 + 3, none⟩) hg2).trans (D3.out h)
            obtain ⟨FO, hFO⟩ : ∃ F, fieldV (r.args.getD 1 []) v = F := ⟨_, rfl⟩
            rw [hFO] at hvx
            obtain ⟨FS, hFS⟩ : ∃ b, (fieldV (r.args.getD 1 []) v).isSome = b := ⟨_, rfl⟩
            rw [hFS]
            have HFS := Lib.hid hFS
            clear hFS
            have HS := Lib.hid S1; have HB := Lib.hid hbox; have HVX := Lib.hid hvx; have HFF := Lib.hid hFO; have HBC := Lib.hid hbc; have E3 := Lib.hid e3
            have hg2c : g2 < wc.heap.size := by have := hbc.size; omega
            have hpc := (Array.getElem?_eq_some_iff.1 hbox).1
            clear S1 hbox hvx e3 p0 p1 p2 p3 p4 c1 D0 D1 D3 hbc hFO
            by_cases ho1 : r.op = opSet
            · as_aux_lemma =>
              have x1 : (OP.toList == [115, 101, 116]) = true := by rw [str_is HOP.out]; exact decide_eq_true ho1
              cases FO with
              | none =>
                obtain rfl : FS = false := by rw [← HFS.out, HFF.out]; rfl
                have hstep : stepR v out r = some out := by
                  unfold stepR
                  dsimp only
                  rw [if_pos ho1, HFF.out]
                have HF2 := Lib.hid (HYES.out _ hstep)
                clear hstep
                go_wp2_with fail
                refine ⟨⟨k + 1, out, _, by omega, by go_num, HF2.out, HS.out⟩, ?_⟩
                simp [intOf]; omega
              | some x =>
                obtain rfl : FS = true := by rw [← HFS.out, HFF.out]; rfl
                have hstep : stepR v out r = some (putV out (r.args.getD 0 []) x) := by
                  unfold stepR
                  dsimp only
                  rw [if_pos ho1, HFF.out]
                have HF2 := Lib.hid (HYES.out _ hstep)
                clear hstep
                have bb : wc.heap[w.heap.size + 1 + 1]? = some (.cells #[.int .i64 6, .int .i64 0, .string ⟨#[]⟩, .slice Ad out.list.length cd, .slice Ad' out.keys.length cd'] 25 (0, 0)) := HS.out.b2
                obtain ⟨⟨p0, p1, p2, p3, p4⟩, q0, q1, q2, q3, q4⟩ := box_of bb
                have BB := Lib.hid bb
                have hvx := HVX.out
                rw [Option.getD_some] at hvx
                have HVY := Lib.hid hvx
                have hsk : ∀ W, Below wc.heap.size wc W → (fun W => W.cell? ⟨g2, o2 + 1, none⟩ = some (.string K0) ∧ (W.cell? ⟨p, 0, none⟩ = some (.int .i64 fk) ∧ W.cell? ⟨p, 1, none⟩ = some (.int .i64 fn) ∧ W.cell? ⟨p, 2, none⟩ = some (.string ft) ∧ W.cell? ⟨p, 3, none⟩ = some (.slice fA fa fb) ∧ W.cell? ⟨p, 4, none⟩ = some (.slice fA' fa' fb'))) W := fun W hb => ⟨(hb.cell (p := ⟨g2, o2 + 1, none⟩) hg2c).trans e1, (box_of (blk_below HB.out hb)).1⟩
                have hss : ∀ W, (fun W => W.cell? ⟨g2, o2 + 1, none⟩ = some (.string K0) ∧ (W.cell? ⟨p, 0, none⟩ = some (.int .i64 fk) ∧ W.cell? ⟨p, 1, none⟩ = some (.int .i64 fn) ∧ W.cell? ⟨p, 2, none⟩ = some (.string ft) ∧ W.cell? ⟨p, 3, none⟩ = some (.slice fA fa fb) ∧ W.cell? ⟨p, 4, none⟩ = some (.slice fA' fa' fb'))) W → ∀ c0 c1 c2 c3 c4, (fun W => W.cell? ⟨g2, o2 + 1, none⟩ = some (.string K0) ∧ (W.cell? ⟨p, 0, none⟩ = some (.int .i64 fk) ∧ W.cell? ⟨p, 1, none⟩ = some (.int .i64 fn) ∧ W.cell? ⟨p, 2, none⟩ = some (.string ft) ∧ W.cell? ⟨p, 3, none⟩ = some (.slice fA fa fb) ∧ W.cell? ⟨p, 4, none⟩ = some (.slice fA' fa' fb'))) (set5 W (w.heap.size + 1 + 1) 0 c0 c1 c2 c3 c4) := fun W h c0 c1 c2 c3 c4 => by
                  have t1 := fun o => World.cell?_of_block (w := W) (a := ⟨g2, o, none⟩) (set5_there (b := w.heap.size + 1 + 1) (o := 0) (c0 := c0) (c1 := c1) (c2 := c2) (c3 := c3) (c4 := c4) (show g2 ≠ w.heap.size + 1 + 1 by omega))
                  have t2 := fun o => World.cell?_of_block (w := W) (a := ⟨p, o, none⟩) (set5_there (b := w.heap.size + 1 + 1) (o := 0) (c0 := c0) (c1 := c1) (c2 := c2) (c3 := c3) (c4 := c4) (show p ≠ w.heap.size + 1 + 1 by omega))
                  obtain ⟨h1, h2, h3, h4, h5, h6⟩ := h
                  exact ⟨(t1 _).trans h1, (t2 _).trans h2, (t2 _).trans h3, (t2 _).trans h4, (t2 _).trans h5, (t2 _).trans h6⟩
                have HSK := Lib.hid hsk; have HSS := Lib.hid hss
                clear bb hvx hsk hss
                go_upto_region 12 with fail
                refine wp_region_held_drew (S := (fun W => W.cell? ⟨g2, o2 + 1, none⟩ = some (.string K0) ∧ (W.cell? ⟨p, 0, none⟩ = some (.int .i64 fk) ∧ W.cell? ⟨p, 1, none⟩ = some (.int .i64 fn) ∧ W.cell? ⟨p, 2, none⟩ = some (.string ft) ∧ W.cell? ⟨p, 3, none⟩ = some (.slice fA fa fb) ∧ W.cell? ⟨p, 4, none⟩ = some (.slice fA' fa' fb')))) (by kernel_rfl) (HSK.out _ (Below.refl _ _).drew) (fun hHeld => ?_)
                refine wpAnyH_take (i := 1) (oi := _) (v := ?v2001) (by simp only [List.getElem?_toArray, List.getElem?_cons_succ, List.getElem?_cons_zero]; rfl) (by kernel_rfl) (by kernel_rfl) (by kernel_rfl) (by exact fun _ _ _ h => h) (Or.inl ⟨by rfl, ?hy2001⟩) (by assumption) ?rest2001
                case hy2001 => (intro w hSw; (try dsimp only at hSw); go_simp; try with_reducible rfl)
                try simp only [Act.put, List.setIfInBounds_toArray, List.set_cons_zero, List.set_cons_succ]
                refine wpAnyH_take (i := 2) (oi := _) (v := ?v2002) (by simp only [List.getElem?_toArray, List.getElem?_cons_succ, List.getElem?_cons_zero]; rfl) (by kernel_rfl) (by kernel_rfl) (by kernel_rfl) (by exact fun _ _ _ h => h) (Or.inl ⟨by rfl, ?hy2002⟩) (by assumption) ?rest2002
                case hy2002 => (intro w hSw; (try dsimp only at hSw); go_simp; try with_reducible rfl)
                try simp only [Act.put, List.setIfInBounds_toArray, List.set_cons_zero, List.set_cons_succ]
                refine wpAnyH_take (i := 3) (oi := _) (v := ?v2003) (by simp only [List.getElem?_toArray, List.getElem?_cons_succ, List.getElem?_cons_zero]; rfl) (by kernel_rfl) (by kernel_rfl) (by kernel_rfl) (by exact fun _ _ _ h => h) (Or.inl ⟨by rfl, ?hy2003⟩) (by assumption) ?rest2003
                case hy2003 => (intro w hSw; (try dsimp only at hSw); go_simp; try with_reducible rfl)
                try simp only [Act.put, List.setIfInBounds_toArray, List.set_cons_zero, List.set_cons_succ]
                refine wpAnyH_take (i := 4) (oi := _) (v := ?v2004) (by simp only [List.getElem?_toArray, List.getElem?_cons_succ, List.getElem?_cons_zero]; rfl) (by kernel_rfl) (by kernel_rfl) (by kernel_rfl) (by exact fun _ _ _ h => h) (Or.inl ⟨by rfl, ?hy2004⟩) (by assumption) ?rest2004
                case hy2004 => (intro w hSw; (try dsimp only at hSw); go_simp; try with_reducible rfl)
                try simp only [Act.put, List.setIfInBounds_toArray, List.set_cons_zero, List.set_cons_succ]
                refine wpAnyH_ready (rs := [0]) (by kernel_rfl) (by simp) ?_
                refine AllReadyH.cons (o := _) (by simp only [List.getElem?_toArray, List.getElem?_cons_succ, List.getElem?_cons_zero]; rfl) (fun K hK => ?_) AllReadyH.nil
                go_simp
                refine hK.out _ _ (HSK.out _ (Below.refl _ _).drew) (fun hHeld => ?_)
                clear hK K
                try simp only [Act.put, List.setIfInBounds_toArray, List.set_cons_zero, List.set_cons_succ]
                refine wpAnyH_ready (rs := [5]) (by kernel_rfl) (by simp) ?_
                refine AllReadyH.cons (o := _) (by simp only [List.getElem?_toArray, List.getElem?_cons_succ, List.getElem?_cons_zero]; rfl) (fun K hK => ?_) AllReadyH.nil
                go_simp
                go_at_call 16
                (with_reducible refine (HPUT.out _ (HS.out.later (Below.refl _ _).drew) x _ _ _ _ _ (.inl (HVY.out.below (Below.refl _ _).drew))).mono ?_)
                rintro e w9 ⟨C, nC, dC, C', nC', dC', rfl, ho, hb9⟩
                have hb9' := below_drew2 _ _ hb9
                have bb1 := blk_below BB.out hb9'
                obtain ⟨⟨v0, v1, v2, v3, v4⟩, y0, y1, y2, y3, y4⟩ := box_of bb1
                have HO := Lib.hid ho; have HB1 := Lib.hid hb9'
                clear bb1 ho hb9 hb9'
                dsimp only
                refine hK.out _ _ (HSK.out w9 HB1.out) (fun hHeld => ?_)
                clear hK K
                try simp only [Act.put, List.setIfInBounds_toArray, List.set_cons_zero, List.set_cons_succ]
                refine wpAnyH_ready (rs := [6]) (by kernel_rfl) (by simp) ?_
                refine AllReadyH.cons (o := _) (by simp only [List.getElem?_toArray, List.getElem?_cons_succ, List.getElem?_cons_zero]; rfl) (fun K hK => ?_) AllReadyH.nil
                go_simp
                refine hK.out _ _ (HSS.out _ (HSK.out w9 HB1.out) _ _ _ _ _) (fun hHeld => ?_)
                clear hK K
                try simp only [Act.put, List.setIfInBounds_toArray, List.set_cons_zero, List.set_cons_succ]
                refine wpAnyH_done (by kernel_rfl) ?_ _
                clear p0 p1 p2 p3 p4 q0 q1 q2 q3 q4 v0 v1 v2 v3 v4 y0 y1 y2 y3 y4
                go_wp2_with fail
                refine ⟨⟨k + 1, _, _, by omega, by go_num, HF2.out, (HS.out.later HB1.out).store HO.out⟩, ?_⟩
                simp [intOf]; omega
            · have x1 : (OP.toList == [115, 101, 116]) = false := by rw [str_is HOP.out]; exact decide_eq_false ho1
              have bb : wc.heap[w.heap.size + 1 + 1]? = some (.cells #[.int .i64 6, .int .i64 0, .string ⟨#[]⟩, .slice Ad out.list.length cd, .slice Ad' out.keys.length cd'] 25 (0, 0)) := HS.out.b2
              by_cases ho2 : r.op = opText
              · as_aux_lemma =>
                have x2 : (OP.toList == [116, 101, 120, 116]) = true := by rw [str_is HOP.out]; exact decide_eq_true ho2
                have hstep : stepR v out r = some (putV out (r.args.getD 0 []) (wordV (r.args.getD 1 []))) := by
                  unfold stepR
                  dsimp only
                  rw [if_neg ho1, if_pos ho2]
                have HF2 := Lib.hid (HYES.out _ hstep)
                obtain ⟨⟨p0, p1, p2, p3, p4⟩, q0, q1, q2, q3, q4⟩ := box_of bb
                have BB := Lib.hid bb
                have hw : ∀ W L N, VIs W L N (wordV (r.args.getD 1 [])) [.int .i64 4, .int .i64 0, .string K1, .slice none 0 0, .slice none 0 0] := fun W L N => by
                  rw [HK1.out]
                  exact VIs.mk (l := []) (ks := []) ⟨by simp, by simp, by have := HNL.out 1 (by omega); omega, by simp⟩ (.inl rfl) (.inl rfl)
                have HW := Lib.hid hw
                have hsk : ∀ W, Below wc.heap.size wc W → (fun W => W.cell? ⟨g2, o2 + 1, none⟩ = some (.string K0) ∧ W.cell? ⟨g2, o2 + 2, none⟩ = some (.string K1)) W := fun W hb => ⟨(hb.cell (p := ⟨g2, o2 + 1, none⟩) hg2c).trans e1, (hb.cell (p := ⟨g2, o2 + 2, none⟩) hg2c).trans e2⟩
                have hst : ∀ W, (fun W => W.cell? ⟨g2, o2 + 1, none⟩ = some (.string K0) ∧ W.cell? ⟨g2, o2 + 2, none⟩ = some (.string K1)) W → ∀ c0 c1 c2 c3 c4, (fun W => W.cell? ⟨g2, o2 + 1, none⟩ = some (.string K0) ∧ W.cell? ⟨g2, o2 + 2, none⟩ = some (.string K1)) (set5 W (w.heap.size + 1 + 1) 0 c0 c1 c2 c3 c4) := fun W h c0 c1 c2 c3 c4 => by
                  have t1 := fun o => World.cell?_of_block (w := W) (a := ⟨g2, o, none⟩) (set5_there (b := w.heap.size + 1 + 1) (o := 0) (c0 := c0) (c1 := c1) (c2 := c2) (c3 := c3) (c4 := c4) (show g2 ≠ w.heap.size + 1 + 1 by omega))
                  exact ⟨(t1 _).trans h.1, (t1 _).trans h.2⟩
                have HSK := Lib.hid hsk; have HSS := Lib.hid hst
                clear bb hsk hst hw hstep
                go_upto_region 14 with fail
                refine wp_region_held_drew (S := (fun W => W.cell? ⟨g2, o2 + 1, none⟩ = some (.string K0) ∧ W.cell? ⟨g2, o2 + 2, none⟩ = some (.string K1))) (by kernel_rfl) (HSK.out _ (Below.refl _ _).drew) (fun hHeld => ?_)
                refine wpAnyH_take (i := 1) (oi := _) (v := ?v3001) (by simp only [List.getElem?_toArray, List.getElem?_cons_succ, List.getElem?_cons_zero]; rfl) (by kernel_rfl) (by kernel_rfl) (by kernel_rfl) (by exact fun _ _ _ h => h) (Or.inl ⟨by rfl, ?hy3001⟩) (by assumption) ?rest3001
                case hy3001 => (intro w hSw; (try dsimp only at hSw); go_simp; try with_reducible rfl)
                try simp only [Act.put, List.setIfInBounds_toArray, List.set_cons_zero, List.set_cons_succ]
                refine wpAnyH_take (i := 2) (oi := _) (v := ?v3002) (by simp only [List.getElem?_toArray, List.getElem?_cons_succ, List.getElem?_cons_zero]; rfl) (by kernel_rfl) (by kernel_rfl) (by kernel_rfl) (by exact fun _ _ _ h => h) (Or.inl ⟨by rfl, ?hy3002⟩) (by assumption) ?rest3002
                case hy3002 => (intro w hSw; (try dsimp only at hSw); go_simp; try with_reducible rfl)
                try simp only [Act.put, List.setIfInBounds_toArray, List.set_cons_zero, List.set_cons_succ]
                refine wpAnyH_take (i := 3) (oi := _) (v := ?v3003) (by simp only [List.getElem?_toArray, List.getElem?_cons_succ, List.getElem?_cons_zero]; rfl) (by kernel_rfl) (by kernel_rfl) (by kernel_rfl) (by exact fun _ _ _ h => h) (Or.inl ⟨by rfl, ?hy3003⟩) (by assumption) ?rest3003
                case hy3003 => (intro w hSw; (try dsimp only at hSw); go_simp; try with_reducible rfl)
                try simp only [Act.put, List.setIfInBounds_toArray, List.set_cons_zero, List.set_cons_succ]
                refine wpAnyH_take (i := 4) (oi := _) (v := ?v3004) (by simp only [List.getElem?_toArray, List.getElem?_cons_succ, List.getElem?_cons_zero]; rfl) (by kernel_rfl) (by kernel_rfl) (by kernel_rfl) (by exact fun _ _ _ h => h) (Or.inl ⟨by rfl, ?hy3004⟩) (by assumption) ?rest3004
                case hy3004 => (intro w hSw; (try dsimp only at hSw); go_simp; try with_reducible rfl)
                try simp only [Act.put, List.setIfInBounds_toArray, List.set_cons_zero, List.set_cons_succ]
                refine wpAnyH_take (i := 5) (oi := _) (v := ?v3005) (by simp only [List.getElem?_toArray, List.getElem?_cons_succ, List.getElem?_cons_zero]; rfl) (by kernel_rfl) (by kernel_rfl) (by kernel_rfl) (by exact fun _ _ _ h => h) (Or.inl ⟨by rfl, ?hy3005⟩) (by assumption) ?rest3005
                case hy3005 => (intro w hSw; (try dsimp only at hSw); go_simp; try with_reducible rfl)
                try simp only [Act.put, List.setIfInBounds_toArray, List.set_cons_zero, List.set_cons_succ]
                refine wpAnyH_take (i := 6) (oi := _) (v := ?v3006) (by simp only [List.getElem?_toArray, List.getElem?_cons_succ, List.getElem?_cons_zero]; rfl) (by kernel_rfl) (by kernel_rfl) (by kernel_rfl) (by exact fun _ _ _ h => h) (Or.inl ⟨by rfl, ?hy3006⟩) (by assumption) ?rest3006
                case hy3006 => (intro w hSw; (try dsimp only at hSw); go_simp; try with_reducible rfl)
                try simp only [Act.put, List.setIfInBounds_toArray, List.set_cons_zero, List.set_cons_succ]
                refine wpAnyH_ready (rs := [0, 7]) (by kernel_rfl) (by simp) ?_
                refine AllReadyH.cons (o := _) (by simp only [List.getElem?_toArray, List.getElem?_cons_succ, List.getElem?_cons_zero]; rfl) (fun K hK => ?_) (AllReadyH.cons (o := _) (by simp only [List.getElem?_toArray, List.getElem?_cons_succ, List.getElem?_cons_zero]; rfl) (fun K hK => ?_) AllReadyH.nil)
                · go_simp
                  refine hK.out _ _ (HSK.out _ (Below.refl _ _).drew) (fun hHeld => ?_)
                  clear hK K
                  try simp only [Act.put, List.setIfInBounds_toArray, List.set_cons_zero, List.set_cons_succ]
                  refine wpAnyH_ready (rs := [7]) (by kernel_rfl) (by simp) ?_
                  refine AllReadyH.cons (o := _) (by simp only [List.getElem?_toArray, List.getElem?_cons_succ, List.getElem?_cons_zero]; rfl) (fun K hK => ?_) AllReadyH.nil
                  go_simp
                  go_at_call 15
                  (with_reducible refine (refWordR_any _ _).mono ?_)
                  rintro e w8 ⟨rfl, hb8⟩
                  have hb8' := below_drew2 _ _ hb8
                  have HB8 := Lib.hid hb8'
                  obtain ⟨⟨v0, v1, v2, v3, v4⟩, y0, y1, y2, y3, y4⟩ := box_of (blk_below BB.out hb8')
                  clear hb8 hb8'
                  dsimp only
                  refine hK.out _ _ (HSK.out w8 HB8.out) (fun hHeld => ?_)
                  clear hK K
                  try simp only [Act.put, List.setIfInBounds_toArray, List.set_cons_zero, List.set_cons_succ]
                  refine wpAnyH_ready (rs := [8]) (by kernel_rfl) (by simp) ?_
                  refine AllReadyH.cons (o := _) (by simp only [List.getElem?_toArray, List.getElem?_cons_succ, List.getElem?_cons_zero]; rfl) (fun K hK => ?_) AllReadyH.nil
                  go_simp
                  go_at_call 16
                  (with_reducible refine (HPUT.out _ (HS.out.later HB8.out) _ _ _ _ _ _ (.inr (HW.out _ _ _))).mono ?_)
                  rintro e w9 ⟨C, nC, dC, C', nC', dC', rfl, ho, hb9⟩
                  have hb9' := HB8.out.chain hb9
                  have bb1 := blk_below BB.out hb9'
                  obtain ⟨⟨v0, v1, v2, v3, v4⟩, y0, y1, y2, y3, y4⟩ := box_of bb1
                  have HO := Lib.hid ho; have HB1 := Lib.hid hb9'
                  clear bb1 ho hb9 hb9'
                  dsimp only
                  refine hK.out _ _ (HSK.out w9 HB1.out) (fun hHeld => ?_)
                  clear hK K
                  try simp only [Act.put, List.setIfInBounds_toArray, List.set_cons_zero, List.set_cons_succ]
                  refine wpAnyH_ready (rs := [9]) (by kernel_rfl) (by simp) ?_
                  refine AllReadyH.cons (o := _) (by simp only [List.getElem?_toArray, List.getElem?_cons_succ, List.getElem?_cons_zero]; rfl) (fun K hK => ?_) AllReadyH.nil
                  go_simp
                  refine hK.out _ _ (HSS.out _ (HSK.out w9 HB1.out) _ _ _ _ _) (fun hHeld => ?_)
                  clear hK K
                  try simp only [Act.put, List.setIfInBounds_toArray, List.set_cons_zero, List.set_cons_succ]
                  refine wpAnyH_done (by kernel_rfl) ?_ _
                  clear p0 p1 p2 p3 p4 q0 q1 q2 q3 q4 v0 v1 v2 v3 v4 y0 y1 y2 y3 y4
                  go_wp2_with fail
                  refine ⟨⟨k + 1, _, _, by omega, by go_num, HF2.out, (HS.out.later HB1.out).store HO.out⟩, ?_⟩
                  simp [intOf]; omega
                · go_simp
                  go_at_call 15
                  (with_reducible refine (refWordR_any _ _).mono ?_)
                  rintro e w8 ⟨rfl, hb8⟩
                  have hb8' := below_drew2 _ _ hb8
                  have HB8 := Lib.hid hb8'
                  obtain ⟨⟨v0, v1, v2, v3, v4⟩, y0, y1, y2, y3, y4⟩ := box_of (blk_below BB.out hb8')
                  clear hb8 hb8'
                  dsimp only
                  refine hK.out _ _ (HSK.out w8 HB8.out) (fun hHeld => ?_)
                  clear hK K
                  try simp only [Act.put, List.setIfInBounds_toArray, List.set_cons_zero, List.set_cons_succ]
                  refine wpAnyH_ready (rs := [0]) (by kernel_rfl) (by simp) ?_
                  refine AllReadyH.cons (o := _) (by simp only [List.getElem?_toArray, List.getElem?_cons_succ, List.getElem?_cons_zero]; rfl) (fun K hK => ?_) AllReadyH.nil
                  go_simp
                  refine hK.out _ _ (HSK.out w8 HB8.out) (fun hHeld => ?_)
                  clear hK K
                  try simp only [Act.put, List.setIfInBounds_toArray, List.set_cons_zero, List.set_cons_succ]
                  refine wpAnyH_ready (rs := [8]) (by kernel_rfl) (by simp) ?_
                  refine AllReadyH.cons (o := _) (by simp only [List.getElem?_toArray, List.getElem?_cons_succ, List.getElem?_cons_zero]; rfl) (fun K hK => ?_) AllReadyH.nil
                  go_simp
                  go_at_call 16
                  (with_reducible refine (HPUT.out _ (HS.out.later HB8.out) _ _ _ _ _ _ (.inr (HW.out _ _ _))).mono ?_)
                  rintro e w9 ⟨C, nC, dC, C', nC', dC', rfl, ho, hb9⟩
                  have hb9' := HB8.out.chain hb9
                  have bb1 := blk_below BB.out hb9'
                  obtain ⟨⟨v0, v1, v2, v3, v4⟩, y0, y1, y2, y3, y4⟩ := box_of bb1
                  have HO := Lib.hid ho; have HB1 := Lib.hid hb9'
                  clear bb1 ho hb9 hb9'
                  dsimp only
                  refine hK.out _ _ (HSK.out w9 HB1.out) (fun hHeld => ?_)
                  clear hK K
                  try simp only [Act.put, List.setIfInBounds_toArray, List.set_cons_zero, List.set_cons_succ]
                  refine wpAnyH_ready (rs := [9]) (by kernel_rfl) (by simp) ?_
                  refine AllReadyH.cons (o := _) (by simp only [List.getElem?_toArray, List.getElem?_cons_succ, List.getElem?_cons_zero]; rfl) (fun K hK => ?_) AllReadyH.nil
                  go_simp
                  refine hK.out _ _ (HSS.out _ (HSK.out w9 HB1.out) _ _ _ _ _) (fun hHeld => ?_)
                  clear hK K
                  try simp only [Act.put, List.setIfInBounds_toArray, List.set_cons_zero, List.set_cons_succ]
                  refine wpAnyH_done (by kernel_rfl) ?_ _
                  clear p0 p1 p2 p3 p4 q0 q1 q2 q3 q4 v0 v1 v2 v3 v4 y0 y1 y2 y3 y4
                  go_wp2_with fail
                  refine ⟨⟨k + 1, _, _, by omega, by go_num, HF2.out, (HS.out.later HB1.out).store HO.out⟩, ?_⟩
                  simp [intOf]; omega
              · have x2 : (OP.toList == [116, 101, 120, 116]) = false := by rw [str_is HOP.out]; exact decide_eq_false ho2
                by_cases ho3 : r.op = opJoin
                · as_aux_lemma =>
                  have x3 : (OP.toList == [106, 111, 105, 110]) = true := by rw [str_is HOP.out]; exact decide_eq_true ho3
                  obtain ⟨wd, hwd⟩ : ∃ wd, wd = wc := ⟨_, rfl⟩
                  subst hwd
                  have ha3 := HJ3.out (.inl ho3)
                  have hm3 : (3 : Int) < m := by omega
                  obtain ⟨K2, hK2⟩ : ∃ O : ByteArray, O = ⟨(r.args.getD 2 []).toArray⟩ := ⟨_, rfl⟩
                  have e4 := E3.out ha3
                  unfold tv at e4
                  rw [← hK2] at e4
                  have hf2 := fun W hb => HFI.out W hb (r.args.getD 2 [])
                  rw [← hK2] at hf2
                  have hd2 : ∀ W, Below wd.heap.size wd W → ((W.cell? ⟨w.heap.size, 0, none⟩ = some (.int .i64 6) ∧ W.cell? ⟨w.heap.size, 1, none⟩ = some (.int .i64 vn) ∧ W.cell? ⟨w.heap.size, 2, none⟩ = some (.string VT) ∧ W.cell? ⟨w.heap.size, 3, none⟩ = some (.slice Ac vl cc) ∧ W.cell? ⟨w.heap.size, 4, none⟩ = some (.slice Ac' vs cc')) ∧ W.cell? ⟨g2, o2 + 3, none⟩ = some (.string K2)) := fun W hb => ⟨(box_of (HS.out.later hb).b0).1, (hb.cell (p := ⟨g2, o2 + 3, none⟩) hg2c).trans e4⟩
                  have HD2 := Lib.hid hd2; have HG2 := Lib.hid hf2; have HK2 := Lib.hid hK2; have BB := Lib.hid bb
                  clear hd2 hf2 hK2 bb
                  go_upto_region 16 with fail
                  go_cut [11, 12] (fun s11 s12 wx => ∃ p fk fn ft fA fa fb fA' fa' fb', s11 = .pointer (some ⟨p, 0, none⟩) ∧ s12 = .bool (fieldV (r.args.getD 2 []) v).isSome ∧ wd.heap.size ≤ p ∧ wx.heap[p]? = some (.cells #[.int .i64 fk, .int .i64 fn, .string ft, .slice fA fa fb, .slice fA' fa' fb'] 25 (0, 0)) ∧ VIs wx 0 w.heap.size ((fieldV (r.args.getD 2 []) v).getD V.zero) [.int .i64 fk, .int .i64 fn, .string ft, .slice fA fa fb, .slice fA' fa' fb'] ∧ Below wd.heap.size wd wx)
                  case first => as_aux_lemma =>
                    refine wp_region_held_drew (S := (fun W => ((W.cell? ⟨w.heap.size, 0, none⟩ = some (.int .i64 6) ∧ W.cell? ⟨w.heap.size, 1, none⟩ = some (.int .i64 vn) ∧ W.cell? ⟨w.heap.size, 2, none⟩ = some (.string VT) ∧ W.cell? ⟨w.heap.size, 3, none⟩ = some (.slice Ac vl cc) ∧ W.cell? ⟨w.heap.size, 4, none⟩ = some (.slice Ac' vs cc')) ∧ W.cell? ⟨g2, o2 + 3, none⟩ = some (.string K2)))) (by kernel_rfl) (HD2.out _ (Below.refl _ _).drew) (fun hHeld => ?_)
                    refine wpAnyH_take (i := 0) (oi := _) (v := ?v4001) (by simp only [List.getElem?_toArray, List.getElem?_cons_succ, List.getElem?_cons_zero]; rfl) (by kernel_rfl) (by kernel_rfl) (by kernel_rfl) (by exact fun _ _ _ h => h) (Or.inl ⟨by rfl, ?hy4001⟩) (by assumption) ?rest4001
                    case hy4001 => (intro w hSw; (try dsimp only at hSw); go_simp; try with_reducible rfl)
                    try simp only [Act.put, List.setIfInBounds_toArray, List.set_cons_zero, List.set_cons_succ]
                    refine wpAnyH_take (i := 1) (oi := _) (v := ?v4002) (by simp only [List.getElem?_toArray, List.getElem?_cons_succ, List.getElem?_cons_zero]; rfl) (by kernel_rfl) (by kernel_rfl) (by kernel_rfl) (by exact fun _ _ _ h => h) (Or.inl ⟨by rfl, ?hy4002⟩) (by assumption) ?rest4002
                    case hy4002 => (intro w hSw; (try dsimp only at hSw); go_simp; try with_reducible rfl)
                    try simp only [Act.put, List.setIfInBounds_toArray, List.set_cons_zero, List.set_cons_succ]
                    refine wpAnyH_take (i := 2) (oi := _) (v := ?v4003) (by simp only [List.getElem?_toArray, List.getElem?_cons_succ, List.getElem?_cons_zero]; rfl) (by kernel_rfl) (by kernel_rfl) (by kernel_rfl) (by exact fun _ _ _ h => h) (Or.inl ⟨by rfl, ?hy4003⟩) (by assumption) ?rest4003
                    case hy4003 => (intro w hSw; (try dsimp only at hSw); go_simp; try with_reducible rfl)
                    try simp only [Act.put, List.setIfInBounds_toArray, List.set_cons_zero, List.set_cons_succ]
                    refine wpAnyH_take (i := 3) (oi := _) (v := ?v4004) (by simp only [List.getElem?_toArray, List.getElem?_cons_succ, List.getElem?_cons_zero]; rfl) (by kernel_rfl) (by kernel_rfl) (by kernel_rfl) (by exact fun _ _ _ h => h) (Or.inl ⟨by rfl, ?hy4004⟩) (by assumption) ?rest4004
                    case hy4004 => (intro w hSw; (try dsimp only at hSw); go_simp; try with_reducible rfl)
                    try simp only [Act.put, List.setIfInBounds_toArray, List.set_cons_zero, List.set_cons_succ]
                    refine wpAnyH_ready (rs := [4, 8]) (by kernel_rfl) (by simp) ?_
                    refine AllReadyH.cons (o := _) (by simp only [List.getElem?_toArray, List.getElem?_cons_succ, List.getElem?_cons_zero]; rfl) (fun K hK => ?_) (AllReadyH.cons (o := _) (by simp only [List.getElem?_toArray, List.getElem?_cons_succ, List.getElem?_cons_zero]; rfl) (fun K hK => ?_) AllReadyH.nil)
                    · go_simp
                      go_at_call 17
                      (with_reducible refine (HG2.out _ (HS.out.low.chain (Below.refl _ _).drew)).mono ?_)
                      rintro e wx ⟨⟨fk, fn, ft, fA, fa, fb, fA', fa', fb', rfl, hvx⟩, hbx⟩
                      have hbx' := below_drew2 _ _ hbx
                      have HBX := Lib.hid hbx'; have HVX := Lib.hid hvx
                      clear hbx hbx' hvx
                      dsimp only
                      refine hK.out _ _ (HD2.out wx HBX.out) (fun hHeld => ?_)
                      clear hK K
                      try simp only [Act.put, List.setIfInBounds_toArray, List.set_cons_zero, List.set_cons_succ]
                      refine wpAnyH_take (i := 5) (oi := _) (v := ?v4006) (by simp only [List.getElem?_toArray, List.getElem?_cons_succ, List.getElem?_cons_zero]; rfl) (by kernel_rfl) (by kernel_rfl) (by kernel_rfl) (by exact fun _ _ _ h => h) (Or.inl ⟨by rfl, ?hy4006⟩) (by assumption) ?rest4006
                      case hy4006 => (intro w hSw; (try dsimp only at hSw); go_simp; try with_reducible rfl)
                      try simp only [Act.put, List.setIfInBounds_toArray, List.set_cons_zero, List.set_cons_succ]
                      refine wpAnyH_take (i := 6) (oi := _) (v := ?v4007) (by simp only [List.getElem?_toArray, List.getElem?_cons_succ, List.getElem?_cons_zero]; rfl) (by kernel_rfl) (by kernel_rfl) (by kernel_rfl) (by exact fun _ _ _ h => h) (Or.inl ⟨by rfl, ?hy4007⟩) (by assumption) ?rest4007
                      case hy4007 => (intro w hSw; (try dsimp only at hSw); go_simp; try with_reducible rfl)
                      try simp only [Act.put, List.setIfInBounds_toArray, List.set_cons_zero, List.set_cons_succ]
                      refine wpAnyH_take (i := 7) (oi := _) (v := ?v4008) (by simp only [List.getElem?_toArray, List.getElem?_cons_succ, List.getElem?_cons_zero]; rfl) (by kernel_rfl) (by kernel_rfl) (by kernel_rfl) (by exact fun _ _ _ h => h) (Or.inl ⟨by rfl, ?hy4008⟩) (by assumption) ?rest4008
                      case hy4008 => (intro w hSw; (try dsimp only at hSw); go_simp; try with_reducible rfl)
                      try simp only [Act.put, List.setIfInBounds_toArray, List.set_cons_zero, List.set_cons_succ]
                      refine wpAnyH_ready (rs := [8]) (by kernel_rfl) (by simp) ?_
                      refine AllReadyH.cons (o := _) (by simp only [List.getElem?_toArray, List.getElem?_cons_succ, List.getElem?_cons_zero]; rfl) (fun K hK => ?_) AllReadyH.nil
                      go_simp
                      have HBA := Lib.hid (HBX.out.alloc HBX.out.size (.cells #[.int .i64 0, .int .i64 0, .string ⟨#[]⟩, .slice none 0 0, .slice none 0 0] 25))
                      obtain ⟨⟨z0, z1, z2, z3, z4⟩, y0, y1, y2, y3, y4⟩ := box_of (heap_alloc_last wx (.cells #[.int .i64 0, .int .i64 0, .string ⟨#[]⟩, .slice none 0 0, .slice none 0 0] 25))
                      refine hK.out _ _ (HD2.out _ HBA.out) (fun hHeld => ?_)
                      clear hK K
                      try simp only [Act.put, List.setIfInBounds_toArray, List.set_cons_zero, List.set_cons_succ]
                      refine wpAnyH_ready (rs := [9]) (by kernel_rfl) (by simp) ?_
                      refine AllReadyH.cons (o := _) (by simp only [List.getElem?_toArray, List.getElem?_cons_succ, List.getElem?_cons_zero]; rfl) (fun K hK => ?_) AllReadyH.nil
                      go_simp
                      refine hK.out _ _ (HD2.out _ (HBX.out.alloc HBX.out.size _)) (fun hHeld => ?_)
                      clear hK K
                      try simp only [Act.put, List.setIfInBounds_toArray, List.set_cons_zero, List.set_cons_succ]
                      refine wpAnyH_ready (rs := [10]) (by kernel_rfl) (by simp) ?_
                      refine AllReadyH.cons (o := _) (by simp only [List.getElem?_toArray, List.getElem?_cons_succ, List.getElem?_cons_zero]; rfl) (fun K hK => ?_) AllReadyH.nil
                      go_simp
                      refine hK.out _ _ (HD2.out _ (HBX.out.alloc HBX.out.size _)) (fun hHeld => ?_)
                      clear hK K
                      try simp only [Act.put, List.setIfInBounds_toArray, List.set_cons_zero, List.set_cons_succ]
                      refine wpAnyH_done (by kernel_rfl) ?_ _
                      go_wp2_with fail
                      go_meet
                      first
                        | exact ⟨_, _, _, _, _, _, _, _, _, _, rfl, rfl, HBX.out.size, heap_alloc_last wx _, HVX.out.below (((Below.refl _ _).alloc (Nat.le_refl _) _).mono (by have := HBX.out.size; omega)), HBX.out.alloc HBX.out.size _⟩
                        | exact ⟨_, _, _, _, _, _, _, _, _, _, rfl, rfl, Nat.le_refl _, (show (set5 wx wd.heap.size 0 (.int .i64 fk) (.int .i64 fn) (.string ft) (.slice fA fa fb) (.slice fA' fa' fb')).heap[wd.heap.size]? = some (.cells #[.int .i64 fk, .int .i64 fn, .string ft, .slice fA fa fb, .slice fA' fa' fb'] 25 (0, 0)) from by simpa using set5_here (o := 0) (c0 := .int .i64 fk) (c1 := .int .i64 fn) (c2 := .string ft) (c3 := .slice fA fa fb) (c4 := .slice fA' fa' fb') Z5.out), HVX.out.below (set5_below (B := w.heap.size) (w := wx) (b := wd.heap.size) (by omega)), HBX.out.trans (set5_below (Nat.le_refl _))⟩
                    · go_simp
                      have HQA := Lib.hid ((Below.refl wd.heap.size wd).alloc (Nat.le_refl _) (.cells #[.int .i64 0, .int .i64 0, .string ⟨#[]⟩, .slice none 0 0, .slice none 0 0] 25)).drew
                      refine hK.out _ _ (HD2.out _ HQA.out) (fun hHeld => ?_)
                      clear hK K
                      try simp only [Act.put, List.setIfInBounds_toArray, List.set_cons_zero, List.set_cons_succ]
                      refine wpAnyH_ready (rs := [4]) (by kernel_rfl) (by simp) ?_
                      refine AllReadyH.cons (o := _) (by simp only [List.getElem?_toArray, List.getElem?_cons_succ, List.getElem?_cons_zero]; rfl) (fun K hK => ?_) AllReadyH.nil
                      go_simp
                      go_at_call 17
                      (with_reducible refine (HG2.out _ (HS.out.low.chain HQA.out)).mono ?_)
                      rintro e wx ⟨⟨fk, fn, ft, fA, fa, fb, fA', fa', fb', rfl, hvx⟩, hbx⟩
                      have hbx' := HQA.out.chain hbx
                      have z5 : wx.heap[wd.heap.size]? = some (.cells #[.int .i64 0, .int .i64 0, .string ⟨#[]⟩, .slice none 0 0, .slice none 0 0] 25 (0, 0)) := blk_below (drew_block (heap_alloc_last wd _)) hbx
                      obtain ⟨⟨z0, z1, z2, z3, z4⟩, y0, y1, y2, y3, y4⟩ := box_of z5
                      have Z5 := Lib.hid z5
                      have HBX := Lib.hid hbx'; have HVX := Lib.hid hvx
                      clear hbx hbx' hvx z5
                      dsimp only
                      refine hK.out _ _ (HD2.out wx HBX.out) (fun hHeld => ?_)
                      clear hK K
                      try simp only [Act.put, List.setIfInBounds_toArray, List.set_cons_zero, List.set_cons_succ]
                      refine wpAnyH_take (i := 5) (oi := _) (v := ?v4013) (by simp only [List.getElem?_toArray, List.getElem?_cons_succ, List.getElem?_cons_zero]; rfl) (by kernel_rfl) (by kernel_rfl) (by kernel_rfl) (by exact fun _ _ _ h => h) (Or.inl ⟨by rfl, ?hy4013⟩) (by assumption) ?rest4013
                      case hy4013 => (intro w hSw; (try dsimp only at hSw); go_simp; try with_reducible rfl)
                      try simp only [Act.put, List.setIfInBounds_toArray, List.set_cons_zero, List.set_cons_succ]
                      refine wpAnyH_take (i := 6) (oi := _) (v := ?v4014) (by simp only [List.getElem?_toArray, List.getElem?_cons_succ, List.getElem?_cons_zero]; rfl) (by kernel_rfl) (by kernel_rfl) (by kernel_rfl) (by exact fun _ _ _ h => h) (Or.inl ⟨by rfl, ?hy4014⟩) (by assumption) ?rest4014
                      case hy4014 => (intro w hSw; (try dsimp only at hSw); go_simp; try with_reducible rfl)
                      try simp only [Act.put, List.setIfInBounds_toArray, List.set_cons_zero, List.set_cons_succ]
                      refine wpAnyH_take (i := 7) (oi := _) (v := ?v4015) (by simp only [List.getElem?_toArray, List.getElem?_cons_succ, List.getElem?_cons_zero]; rfl) (by kernel_rfl) (by kernel_rfl) (by kernel_rfl) (by exact fun _ _ _ h => h) (Or.inl ⟨by rfl, ?hy4015⟩) (by assumption) ?rest4015
                      case hy4015 => (intro w hSw; (try dsimp only at hSw); go_simp; try with_reducible rfl)
                      try simp only [Act.put, List.setIfInBounds_toArray, List.set_cons_zero, List.set_cons_succ]
                      refine wpAnyH_ready (rs := [9]) (by kernel_rfl) (by simp) ?_
                      refine AllReadyH.cons (o := _) (by simp only [List.getElem?_toArray, List.getElem?_cons_succ, List.getElem?_cons_zero]; rfl) (fun K hK => ?_) AllReadyH.nil
                      go_simp
                      refine hK.out _ _ (HD2.out _ (HBX.out.trans (set5_below (Nat.le_refl _)))) (fun hHeld => ?_)
                      clear hK K
                      try simp only [Act.put, List.setIfInBounds_toArray, List.set_cons_zero, List.set_cons_succ]
                      refine wpAnyH_ready (rs := [10]) (by kernel_rfl) (by simp) ?_
                      refine AllReadyH.cons (o := _) (by simp only [List.getElem?_toArray, List.getElem?_cons_succ, List.getElem?_cons_zero]; rfl) (fun K hK => ?_) AllReadyH.nil
                      go_simp
                      refine hK.out _ _ (HD2.out _ (HBX.out.trans (set5_below (Nat.le_refl _)))) (fun hHeld => ?_)
                      clear hK K
                      try simp only [Act.put, List.setIfInBounds_toArray, List.set_cons_zero, List.set_cons_succ]
                      refine wpAnyH_done (by kernel_rfl) ?_ _
                      go_wp2_with fail
                      go_meet
                      first
                        | exact ⟨_, _, _, _, _, _, _, _, _, _, rfl, rfl, HBX.out.size, heap_alloc_last wx _, HVX.out.below (((Below.refl _ _).alloc (Nat.le_refl _) _).mono (by have := HBX.out.size; omega)), HBX.out.alloc HBX.out.size _⟩
                        | exact ⟨_, _, _, _, _, _, _, _, _, _, rfl, rfl, Nat.le_refl _, (show (set5 wx wd.heap.size 0 (.int .i64 fk) (.int .i64 fn) (.string ft) (.slice fA fa fb) (.slice fA' fa' fb')).heap[wd.heap.size]? = some (.cells #[.int .i64 fk, .int .i64 fn, .string ft, .slice fA fa fb, .slice fA' fa' fb'] 25 (0, 0)) from by simpa using set5_here (o := 0) (c0 := .int .i64 fk) (c1 := .int .i64 fn) (c2 := .string ft) (c3 := .slice fA fa fb) (c4 := .slice fA' fa' fb') Z5.out), HVX.out.below (set5_below (B := w.heap.size) (w := wx) (b := wd.heap.size) (by omega)), HBX.out.trans (set5_below (Nat.le_refl _))⟩
                  case rest =>
                    obtain ⟨bq, jk, jn, jt, jA, ja, jb, jA', ja', jb', rfl, rfl, hp2, hbox2, hvx2, hbc2⟩ := hcut
                    have S2 := HS.out.later hbc2
                    have hfe := HVX.out.form
                    obtain ⟨_, _, _, _, hfe⟩ := hfe
                    have hje := hvx2.form
                    obtain ⟨_, _, _, _, hje⟩ := hje
                    simp only [List.cons.injEq, Value.int.injEq, Value.string.injEq, true_and] at hfe hje
                    obtain ⟨hfk, -, hft, -⟩ := hfe
                    obtain ⟨hjk, -, hjt, -⟩ := hje
                    obtain ⟨⟨r0, r1, r2, r3, r4⟩, -⟩ := box_of (blk_below HB.out hbc2)
                    obtain ⟨⟨t0, t1, t2, t3, t4⟩, -⟩ := box_of hbox2
                    by_cases hkk : fk = 4 ∧ jk = 4
                    · as_aux_lemma =>
                      have hmem : ∀ key, ((fieldV key v).getD V.zero).text.length ≤ 1000000 := fun key => by
                        cases hq : fieldV key v with
                        | none => exact Nat.zero_le _
                        | some q =>
                          refine HX.out q ?_
                          obtain ⟨a1, a2, a3, a4, a5⟩ := v
                          have hq : (if a1 = 6 ∧ keyAt key a5 < a5.length then a4[keyAt key a5]? else none) = some q := hq
                          split at hq
                          · exact List.mem_of_getElem? hq
                          · cases hq
                      have l1 := hmem (r.args.getD 1 [])
                      rw [HFF.out] at l1
                      have l2 := hmem (r.args.getD 2 [])
                      have z1 : ft.size ≤ 1000000 := by rw [hft]; show Array.size _ ≤ _; simpa using l1
                      have z2 : jt.size ≤ 1000000 := by rw [hjt]; show Array.size _ ≤ _; simpa using l2
                      have hC1 : (⟨#[46]⟩ : ByteArray).size = 1 := rfl
                      have s1 := fun W => run_string_add_sum (P := Tryd.prog) W ft ⟨#[46]⟩ (by omega)
                      obtain ⟨T1, hT1⟩ : ∃ S, S = ft ++ ⟨#[46]⟩ := ⟨_, rfl⟩
                      rw [← hT1] at s1
                      have hT1s : T1.size = ft.size + 1 := by rw [hT1]; exact ByteArray.size_append
                      have s2 := fun W => run_string_add_sum (P := Tryd.prog) W T1 jt (by omega)
                      obtain ⟨T2, hT2⟩ : ∃ S, S = T1 ++ jt := ⟨_, rfl⟩
                      rw [← hT2] at s2
                      obtain ⟨TX, hTX⟩ : ∃ T, (FO.getD V.zero).text ++ [46] ++ ((fieldV (r.args.getD 2 []) v).getD V.zero).text = T := ⟨_, rfl⟩
                      have hT2x : T2 = ⟨TX.toArray⟩ := by
                        rw [← hTX, hT2, hT1, hft, hjt]
                        apply ByteArray.ext
                        simp [ByteArray.data_append]
                      have hTl : TX.length ≤ 9223372036854775807 := by
                        rw [← hTX, List.length_append, List.length_append]
                        show _ + 1 + _ ≤ _
                        omega
                      have hw : ∀ W L N, VIs W L N (wordV TX) [.int .i64 4, .int .i64 0, .string T2, .slice none 0 0, .slice none 0 0] := fun W L N => by
                        rw [hT2x]
                        exact VIs.mk (l := []) (ks := []) ⟨by simp, by simp, hTl, by simp⟩ (.inl rfl) (.inl rfl)
                      have hstep : stepR v out r = some (putV out (r.args.getD 0 []) (wordV TX)) := by
                        unfold stepR
                        dsimp only
                        rw [if_neg ho1, if_neg ho2, if_pos ho3, HFF.out, if_pos (by rw [← hfk, ← hjk]; exact hkk), hTX]
                      have HF2 := Lib.hid (HYES.out _ hstep)
                      have HW := Lib.hid hw; have HS := Lib.hid S2
                      have bb2 : wc.heap[w.heap.size + 1 + 1]? = some (.cells #[.int .i64 6, .int .i64 0, .string ⟨#[]⟩, .slice Ad out.list.length cd, .slice Ad' out.keys.length cd'] 25 (0, 0)) := S2.b2
                      obtain ⟨⟨p0, p1, p2, p3, p4⟩, q0, q1, q2, q3, q4⟩ := box_of bb2
                      have BB := Lib.hid bb2
                      have hgc : g2 < wc.heap.size := by have := hbc2.size; omega
                      have hpw : p < wc.heap.size := by have := hbc2.size; omega
                      have hqw : bq < wc.heap.size := (Array.getElem?_eq_some_iff.1 hbox2).1
                      have hpn : p ≠ w.heap.size + 1 + 1 := by omega
                      have hqn : bq ≠ w.heap.size + 1 + 1 := by have := hp2; omega
                      have f1 := (hbc2.cell (p := ⟨g2, o2 + 1, none⟩) hg2c).trans e1
                      have hsk : ∀ W, Below wc.heap.size wc W → (fun W => W.cell? ⟨g2, o2 + 1, none⟩ = some (.string K0) ∧ W.cell? ⟨p, 2, none⟩ = some (.string ft) ∧ W.cell? ⟨bq, 2, none⟩ = some (.string jt)) W := fun W hb => ⟨(hb.cell (p := ⟨g2, o2 + 1, none⟩) hgc).trans f1, (hb.cell (p := ⟨p, 2, none⟩) hpw).trans r2, (hb.cell (p := ⟨bq, 2, none⟩) hqw).trans t2⟩
                      have hst : ∀ W, (fun W => W.cell? ⟨g2, o2 + 1, none⟩ = some (.string K0) ∧ W.cell? ⟨p, 2, none⟩ = some (.string ft) ∧ W.cell? ⟨bq, 2, none⟩ = some (.string jt)) W → ∀ c0 c1 c2 c3 c4, (fun W => W.cell? ⟨g2, o2 + 1, none⟩ = some (.string K0) ∧ W.cell? ⟨p, 2, none⟩ = some (.string ft) ∧ W.cell? ⟨bq, 2, none⟩ = some (.string jt)) (set5 W (w.heap.size + 1 + 1) 0 c0 c1 c2 c3 c4) := fun W h c0 c1 c2 c3 c4 => by
                        have t1 := fun g o (hg : g ≠ w.heap.size + 1 + 1) => World.cell?_of_block (w := W) (a := ⟨g, o, none⟩) (set5_there (b := w.heap.size + 1 + 1) (o := 0) (c0 := c0) (c1 := c1) (c2 := c2) (c3 := c3) (c4 := c4) hg)
                        exact ⟨(t1 g2 _ (by omega)).trans h.1, (t1 p _ hpn).trans h.2.1, (t1 bq _ hqn).trans h.2.2⟩
                      have HSK := Lib.hid hsk; have HSS := Lib.hid hst
                      obtain ⟨b1, b2⟩ := hkk
                      have b1 : (fk != 4) = false := by simpa using b1
                      have b2 : (jk != 4) = false := by simpa using b2
                      clear bb2 hsk hst hw hstep hmem l1 l2 hT1 hT2 hTX hT2x hTl hfk hft hjk hjt hvx2 hbox2 hbc2 S2
                      go_upto_region 19 with fail
                      refine wp_region_held_drew (S := (fun W => W.cell? ⟨g2, o2 + 1, none⟩ = some (.string K0) ∧ W.cell? ⟨p, 2, none⟩ = some (.string ft) ∧ W.cell? ⟨bq, 2, none⟩ = some (.string jt))) (by kernel_rfl) (HSK.out _ (Below.refl _ _).drew) (fun hHeld => ?_)
                      refine wpAnyH_take (i := 1) (oi := _) (v := ?v19001) (by simp only [List.getElem?_toArray, List.getElem?_cons_succ, List.getElem?_cons_zero]; rfl) (by kernel_rfl) (by kernel_rfl) (by kernel_rfl) (by exact fun _ _ _ h => h) (Or.inl ⟨by rfl, ?hy19001⟩) (by assumption) ?rest19001
                      case hy19001 => (intro w hSw; (try dsimp only at hSw); go_simp; try with_reducible rfl)
                      try simp only [Act.put, List.setIfInBounds_toArray, List.set_cons_zero, List.set_cons_succ]
                      refine wpAnyH_take (i := 2) (oi := _) (v := ?v19002) (by simp only [List.getElem?_toArray, List.getElem?_cons_succ, List.getElem?_cons_zero]; rfl) (by kernel_rfl) (by kernel_rfl) (by kernel_rfl) (by exact fun _ _ _ h => h) (Or.inl ⟨by rfl, ?hy19002⟩) (by assumption) ?rest19002
                      case hy19002 => (intro w hSw; (try dsimp only at hSw); go_simp; try with_reducible rfl)
                      try simp only [Act.put, List.setIfInBounds_toArray, List.set_cons_zero, List.set_cons_succ]
                      refine wpAnyH_take (i := 3) (oi := _) (v := ?v19003) (by simp only [List.getElem?_toArray, List.getElem?_cons_succ, List.getElem?_cons_zero]; rfl) (by kernel_rfl) (by kernel_rfl) (by kernel_rfl) (by exact fun _ _ _ h => h) (Or.inl ⟨by rfl, ?hy19003⟩) (by assumption) ?rest19003
                      case hy19003 => (intro w hSw; (try dsimp only at hSw); go_simp; try with_reducible rfl)
                      try simp only [Act.put, List.setIfInBounds_toArray, List.set_cons_zero, List.set_cons_succ]
                      refine wpAnyH_take (i := 4) (oi := _) (v := ?v19004) (by simp only [List.getElem?_toArray, List.getElem?_cons_succ, List.getElem?_cons_zero]; rfl) (by kernel_rfl) (by kernel_rfl) (by kernel_rfl) (by exact fun _ _ _ h => h) (Or.inl ⟨by rfl, ?hy19004⟩) (by assumption) ?rest19004
                      case hy19004 => (intro w hSw; (try dsimp only at hSw); go_simp; try with_reducible rfl)
                      try simp only [Act.put, List.setIfInBounds_toArray, List.set_cons_zero, List.set_cons_succ]
                      refine wpAnyH_take (i := 5) (oi := _) (v := ?v19005) (by simp only [List.getElem?_toArray, List.getElem?_cons_succ, List.getElem?_cons_zero]; rfl) (by kernel_rfl) (by kernel_rfl) (by kernel_rfl) (by exact fun _ _ _ h => h) (Or.inl ⟨by rfl, ?hy19005⟩) (by assumption) ?rest19005
                      case hy19005 => (intro w hSw; (try dsimp only at hSw); go_simp; try with_reducible rfl)
                      try simp only [Act.put, List.setIfInBounds_toArray, List.set_cons_zero, List.set_cons_succ]
                      refine wpAnyH_take (i := 6) (oi := _) (v := ?v19006) (by simp only [List.getElem?_toArray, List.getElem?_cons_succ, List.getElem?_cons_zero]; rfl) (by kernel_rfl) (by kernel_rfl) (by kernel_rfl) (by exact fun _ _ _ h => h) (Or.inl ⟨by rfl, ?hy19006⟩) (by assumption) ?rest19006
                      case hy19006 => (intro w hSw; (try dsimp only at hSw); go_simp; try with_reducible rfl)
                      try simp only [Act.put, List.setIfInBounds_toArray, List.set_cons_zero, List.set_cons_succ]
                      refine wpAnyH_take (i := 7) (oi := _) (v := ?v19007) (by simp only [List.getElem?_toArray, List.getElem?_cons_succ, List.getElem?_cons_zero]; rfl) (by kernel_rfl) (by kernel_rfl) (by kernel_rfl) (by exact fun _ _ _ h => h) (Or.inl ⟨by rfl, ?hy19007⟩) (by assumption) ?rest19007
                      case hy19007 => (intro w hSw; (try dsimp only at hSw); go_simp; try with_reducible rfl)
                      try simp only [Act.put, List.setIfInBounds_toArray, List.set_cons_zero, List.set_cons_succ]
                      refine wpAnyH_take (i := 8) (oi := _) (v := ?v19008) (by simp only [List.getElem?_toArray, List.getElem?_cons_succ, List.getElem?_cons_zero]; rfl) (by kernel_rfl) (by kernel_rfl) (by kernel_rfl) (by exact fun _ _ _ h => h) (Or.inl ⟨by rfl, ?hy19008⟩) (by assumption) ?rest19008
                      case hy19008 => (intro w hSw; (try dsimp only at hSw); go_simp; try with_reducible rfl)
                      try simp only [Act.put, List.setIfInBounds_toArray, List.set_cons_zero, List.set_cons_succ]
                      refine wpAnyH_take (i := 9) (oi := _) (v := ?v19009) (by simp only [List.getElem?_toArray, List.getElem?_cons_succ, List.getElem?_cons_zero]; rfl) (by kernel_rfl) (by kernel_rfl) (by kernel_rfl) (by exact fun _ _ _ h => h) (Or.inl ⟨by rfl, ?hy19009⟩) (by assumption) ?rest19009
                      case hy19009 => (intro w hSw; (try dsimp only at hSw); go_simp; try with_reducible rfl)
                      try simp only [Act.put, List.setIfInBounds_toArray, List.set_cons_zero, List.set_cons_succ]
                      refine wpAnyH_ready (rs := [0, 10]) (by kernel_rfl) (by simp) ?_
                      refine AllReadyH.cons (o := _) (by simp only [List.getElem?_toArray, List.getElem?_cons_succ, List.getElem?_cons_zero]; rfl) (fun K hK => ?_) (AllReadyH.cons (o := _) (by simp only [List.getElem?_toArray, List.getElem?_cons_succ, List.getElem?_cons_zero]; rfl) (fun K hK => ?_) AllReadyH.nil)
                      · go_simp
                        refine hK.out _ _ (HSK.out _ (Below.refl _ _).drew) (fun hHeld => ?_)
                        clear hK K
                        try simp only [Act.put, List.setIfInBounds_toArray, List.set_cons_zero, List.set_cons_succ]
                        refine wpAnyH_ready (rs := [10]) (by kernel_rfl) (by simp) ?_
                        refine AllReadyH.cons (o := _) (by simp only [List.getElem?_toArray, List.getElem?_cons_succ, List.getElem?_cons_zero]; rfl) (fun K hK => ?_) AllReadyH.nil
                        go_simp
                        go_at_call 15
                        (with_reducible refine (refWordR_any _ _).mono ?_)
                        rintro e w8 ⟨rfl, hb8⟩
                        have hb8' := below_drew2 _ _ hb8
                        have HB8 := Lib.hid hb8'
                        obtain ⟨⟨v0, v1, v2, v3, v4⟩, y0, y1, y2, y3, y4⟩ := box_of (blk_below BB.out hb8')
                        clear hb8 hb8'
                        dsimp only
                        refine hK.out _ _ (HSK.out w8 HB8.out) (fun hHeld => ?_)
                        clear hK K
                        try simp only [Act.put, List.setIfInBounds_toArray, List.set_cons_zero, List.set_cons_succ]
                        refine wpAnyH_ready (rs := [11]) (by kernel_rfl) (by simp) ?_
                        refine AllReadyH.cons (o := _) (by simp only [List.getElem?_toArray, List.getElem?_cons_succ, List.getElem?_cons_zero]; rfl) (fun K hK => ?_) AllReadyH.nil
                        go_simp
                        go_at_call 16
                        (with_reducible refine (HPUT.out _ (HS.out.later HB8.out) _ _ _ _ _ _ (.inr (HW.out _ _ _))).mono ?_)
                        rintro e w9 ⟨C, nC, dC, C', nC', dC', rfl, ho, hb9⟩
                        have hb9' := HB8.out.chain hb9
                        have bb1 := blk_below BB.out hb9'
                        obtain ⟨⟨v0, v1, v2, v3, v4⟩, y0, y1, y2, y3, y4⟩ := box_of bb1
                        have HO := Lib.hid ho; have HB1 := Lib.hid hb9'
                        clear bb1 ho hb9 hb9'
                        dsimp only
                        refine hK.out _ _ (HSK.out w9 HB1.out) (fun hHeld => ?_)
                        clear hK K
                        try simp only [Act.put, List.setIfInBounds_toArray, List.set_cons_zero, List.set_cons_succ]
                        refine wpAnyH_ready (rs := [12]) (by kernel_rfl) (by simp) ?_
                        refine AllReadyH.cons (o := _) (by simp only [List.getElem?_toArray, List.getElem?_cons_succ, List.getElem?_cons_zero]; rfl) (fun K hK => ?_) AllReadyH.nil
                        go_simp
                        refine hK.out _ _ (HSS.out _ (HSK.out w9 HB1.out) _ _ _ _ _) (fun hHeld => ?_)
                        clear hK K
                        try simp only [Act.put, List.setIfInBounds_toArray, List.set_cons_zero, List.set_cons_succ]
                        refine wpAnyH_done (by kernel_rfl) ?_ _
                        clear p0 p1 p2 p3 p4 q0 q1 q2 q3 q4 v0 v1 v2 v3 v4 y0 y1 y2 y3 y4
                        go_wp2_with fail
                        refine ⟨⟨k + 1, _, _, by omega, by go_num, HF2.out, (HS.out.later HB1.out).store HO.out⟩, ?_⟩
                        simp [intOf]; omega
                      · go_simp
                        go_at_call 15
                        (with_reducible refine (refWordR_any _ _).mono ?_)
                        rintro e w8 ⟨rfl, hb8⟩
                        have hb8' := below_drew2 _ _ hb8
                        have HB8 := Lib.hid hb8'
                        obtain ⟨⟨v0, v1, v2, v3, v4⟩, y0, y1, y2, y3, y4⟩ := box_of (blk_below BB.out hb8')
                        clear hb8 hb8'
                        dsimp only
                        refine hK.out _ _ (HSK.out w8 HB8.out) (fun hHeld => ?_)
                        clear hK K
                        try simp only [Act.put, List.setIfInBounds_toArray, List.set_cons_zero, List.set_cons_succ]
                        refine wpAnyH_ready (rs := [0]) (by kernel_rfl) (by simp) ?_
                        refine AllReadyH.cons (o := _) (by simp only [List.getElem?_toArray, List.getElem?_cons_succ, List.getElem?_cons_zero]; rfl) (fun K hK => ?_) AllReadyH.nil
                        go_simp
                        refine hK.out _ _ (HSK.out w8 HB8.out) (fun hHeld => ?_)
                        clear hK K
                        try simp only [Act.put, List.setIfInBounds_toArray, List.set_cons_zero, List.set_cons_succ]
                        refine wpAnyH_ready (rs := [11]) (by kernel_rfl) (by simp) ?_
                        refine AllReadyH.cons (o := _) (by simp only [List.getElem?_toArray, List.getElem?_cons_succ, List.getElem?_cons_zero]; rfl) (fun K hK => ?_) AllReadyH.nil
                        go_simp
                        go_at_call 16
                        (with_reducible refine (HPUT.out _ (HS.out.later HB8.out) _ _ _ _ _ _ (.inr (HW.out _ _ _))).mono ?_)
                        rintro e w9 ⟨C, nC, dC, C', nC', dC', rfl, ho, hb9⟩
                        have hb9' := HB8.out.chain hb9
                        have bb1 := blk_below BB.out hb9'
                        obtain ⟨⟨v0, v1, v2, v3, v4⟩, y0, y1, y2, y3, y4⟩ := box_of bb1
                        have HO := Lib.hid ho; have HB1 := Lib.hid hb9'
                        clear bb1 ho hb9 hb9'
                        dsimp only
                        refine hK.out _ _ (HSK.out w9 HB1.out) (fun hHeld => ?_)
                        clear hK K
                        try simp only [Act.put, List.setIfInBounds_toArray, List.set_cons_zero, List.set_cons_succ]
                        refine wpAnyH_ready (rs := [12]) (by kernel_rfl) (by simp) ?_
                        refine AllReadyH.cons (o := _) (by simp only [List.getElem?_toArray, List.getElem?_cons_succ, List.getElem?_cons_zero]; rfl) (fun K hK => ?_) AllReadyH.nil
                        go_simp
                        refine hK.out _ _ (HSS.out _ (HSK.out w9 HB1.out) _ _ _ _ _) (fun hHeld => ?_)
                        clear hK K
                        try simp only [Act.put, List.setIfInBounds_toArray, List.set_cons_zero, List.set_cons_succ]
                        refine wpAnyH_done (by kernel_rfl) ?_ _
                        clear p0 p1 p2 p3 p4 q0 q1 q2 q3 q4 v0 v1 v2 v3 v4 y0 y1 y2 y3 y4
                        go_wp2_with fail
                        refine ⟨⟨k + 1, _, _, by omega, by go_num, HF2.out, (HS.out.later HB1.out).store HO.out⟩, ?_⟩
                        simp [intOf]; omega
                    · as_aux_lemma =>
                      have hstep : stepR v out r = none := by
                        unfold stepR
                        dsimp only
                        rw [if_neg ho1, if_neg ho2, if_pos ho3, HFF.out, if_neg (by rw [← hfk, ← hjk]; exact hkk)]
                      obtain rfl := HNONE.out hstep
                      obtain ⟨⟨p0, p1, p2, p3, p4⟩, q0, q1, q2, q3, q4⟩ := box_of S2.b1
                      have hzb := set5_here (o := 0) (c0 := .int .i64 0) (c1 := .int .i64 0) (c2 := .string ⟨#[]⟩) (c3 := .slice none 0 0) (c4 := .slice none 0 0) S2.b1
                      obtain ⟨wf, hwf⟩ : ∃ wf, wf = set5 wc (w.heap.size + 1) 0 (.int .i64 0) (.int .i64 0) (.string ⟨#[]⟩) (.slice none 0 0) (.slice none 0 0) := ⟨_, rfl⟩
                      have hbf : Below w.heap.size w wf := by rw [hwf]; exact S2.low.trans (set5_below (by omega))
                      rw [← hwf] at hzb
                      obtain ⟨⟨y0, y1, y2, y3, y4⟩, -⟩ := box_of (by simpa using hzb)
                      have HBF := Lib.hid hbf; have HWF := Lib.hid hwf; have HKK := Lib.hid hkk
                      clear S2 hbf hwf hzb hstep hfk hft hjk hjt hvx2 hbox2 hbc2
                      by_cases h4 : fk = 4
                      · have h5 : jk ≠ 4 := fun e => HKK.out ⟨h4, e⟩
                        have b1 : (fk != 4) = false := by simpa using h4
                        have b2 : (jk != 4) = true := by simpa using h5
                        clear h4 h5 hkk
                        go_wp2_with fail
                        change bodyPost _ _ _ _ _ (set5 wc (w.heap.size + 1) 0 (.int .i64 0) (.int .i64 0) (.string ⟨#[]⟩) (.slice none 0 0) (.slice none 0 0))
                        rw [← HWF.out]
                        refine bodyPost_ret (v := .tuple #[.agg #[.int .i64 0, .int .i64 0, .string ⟨#[]⟩, .slice none 0 0, .slice none 0 0], .bool false]) (by simp [results, Tryd.results13, go_sem, y0, y1, y2, y3, y4]) rfl ?_
                        exact run_none HBF.out
                      · have b1 : (fk != 4) = true := by simpa using h4
                        clear h4 hkk
                        go_wp2_with fail
                        change bodyPost _ _ _ _ _ (set5 wc (w.heap.size + 1) 0 (.int .i64 0) (.int .i64 0) (.string ⟨#[]⟩) (.slice none 0 0) (.slice none 0 0))
                        rw [← HWF.out]
                        refine bodyPost_ret (v := .tuple #[.agg #[.int .i64 0, .int .i64 0, .string ⟨#[]⟩, .slice none 0 0, .slice none 0 0], .bool false]) (by simp [results, Tryd.results13, go_sem, y0, y1, y2, y3, y4]) rfl ?_
                        exact run_none HBF.out
                · have x3 : (OP.toList == [106, 111, 105, 110]) = false := by rw [str_is HOP.out]; exact decide_eq_false ho3
                  by_cases ho4 : r.op = opNeed
                  · as_aux_lemma =>
                    have x4 : (OP.toList == [110, 101, 101, 100]) = true := by rw [str_is HOP.out]; exact decide_eq_true ho4
                    obtain ⟨wd, hwd⟩ : ∃ wd, wd = wc := ⟨_, rfl⟩
                    subst hwd
                    have hf2 := fun W hb => HFI.out W hb (r.args.getD 0 [])
                    rw [← HK0.out] at hf2
                    have hd2 : ∀ W, Below wd.heap.size wd W → ((W.cell? ⟨w.heap.size, 0, none⟩ = some (.int .i64 6) ∧ W.cell? ⟨w.heap.size, 1, none⟩ = some (.int .i64 vn) ∧ W.cell? ⟨w.heap.size, 2, none⟩ = some (.string VT) ∧ W.cell? ⟨w.heap.size, 3, none⟩ = some (.slice Ac vl cc) ∧ W.cell? ⟨w.heap.size, 4, none⟩ = some (.slice Ac' vs cc')) ∧ W.cell? ⟨g2, o2 + 1, none⟩ = some (.string K0)) := fun W hb => ⟨(box_of (HS.out.later hb).b0).1, (hb.cell (p := ⟨g2, o2 + 1, none⟩) hg2c).trans e1⟩
                    have HD2 := Lib.hid hd2; have HG2 := Lib.hid hf2
                    clear hd2 hf2 bb
                    go_upto_region 21 with fail
                    go_cut [13, 14] (fun s13 s14 wx => ∃ p fk fn ft fA fa fb fA' fa' fb', s13 = .pointer (some ⟨p, 0, none⟩) ∧ s14 = .bool (fieldV (r.args.getD 0 []) v).isSome ∧ wd.heap.size ≤ p ∧ wx.heap[p]? = some (.cells #[.int .i64 fk, .int .i64 fn, .string ft, .slice fA fa fb, .slice fA' fa' fb'] 25 (0, 0)) ∧ VIs wx 0 w.heap.size ((fieldV (r.args.getD 0 []) v).getD V.zero) [.int .i64 fk, .int .i64 fn, .string ft, .slice fA fa fb, .slice fA' fa' fb'] ∧ Below wd.heap.size wd wx)
                    case first => as_aux_lemma =>
                      refine wp_region_held_drew (S := (fun W => ((W.cell? ⟨w.heap.size, 0, none⟩ = some (.int .i64 6) ∧ W.cell? ⟨w.heap.size, 1, none⟩ = some (.int .i64 vn) ∧ W.cell? ⟨w.heap.size, 2, none⟩ = some (.string VT) ∧ W.cell? ⟨w.heap.size, 3, none⟩ = some (.slice Ac vl cc) ∧ W.cell? ⟨w.heap.size, 4, none⟩ = some (.slice Ac' vs cc')) ∧ W.cell? ⟨g2, o2 + 1, none⟩ = some (.string K0)))) (by kernel_rfl) (HD2.out _ (Below.refl _ _).drew) (fun hHeld => ?_)
                      refine wpAnyH_take (i := 0) (oi := _) (v := ?v21001) (by simp only [List.getElem?_toArray, List.getElem?_cons_succ, List.getElem?_cons_zero]; rfl) (by kernel_rfl) (by kernel_rfl) (by kernel_rfl) (by exact fun _ _ _ h => h) (Or.inl ⟨by rfl, ?hy21001⟩) (by assumption) ?rest21001
                      case hy21001 => (intro w hSw; (try dsimp only at hSw); go_simp; try with_reducible rfl)
                      try simp only [Act.put, List.setIfInBounds_toArray, List.set_cons_zero, List.set_cons_succ]
                      refine wpAnyH_take (i := 1) (oi := _) (v := ?v21002) (by simp only [List.getElem?_toArray, List.getElem?_cons_succ, List.getElem?_cons_zero]; rfl) (by kernel_rfl) (by kernel_rfl) (by kernel_rfl) (by exact fun _ _ _ h => h) (Or.inl ⟨by rfl, ?hy21002⟩) (by assumption) ?rest21002
                      case hy21002 => (intro w hSw; (try dsimp only at hSw); go_simp; try with_reducible rfl)
                      try simp only [Act.put, List.setIfInBounds_toArray, List.set_cons_zero, List.set_cons_succ]
                      refine wpAnyH_take (i := 2) (oi := _) (v := ?v21003) (by simp only [List.getElem?_toArray, List.getElem?_cons_succ, List.getElem?_cons_zero]; rfl) (by kernel_rfl) (by kernel_rfl) (by kernel_rfl) (by exact fun _ _ _ h => h) (Or.inl ⟨by rfl, ?hy21003⟩) (by assumption) ?rest21003
                      case hy21003 => (intro w hSw; (try dsimp only at hSw); go_simp; try with_reducible rfl)
                      try simp only [Act.put, List.setIfInBounds_toArray, List.set_cons_zero, List.set_cons_succ]
                      refine wpAnyH_take (i := 3) (oi := _) (v := ?v21004) (by simp only [List.getElem?_toArray, List.getElem?_cons_succ, List.getElem?_cons_zero]; rfl) (by kernel_rfl) (by kernel_rfl) (by kernel_rfl) (by exact fun _ _ _ h => h) (Or.inl ⟨by rfl, ?hy21004⟩) (by assumption) ?rest21004
                      case hy21004 => (intro w hSw; (try dsimp only at hSw); go_simp; try with_reducible rfl)
                      try simp only [Act.put, List.setIfInBounds_toArray, List.set_cons_zero, List.set_cons_succ]
                      refine wpAnyH_ready (rs := [4, 8]) (by kernel_rfl) (by simp) ?_
                      refine AllReadyH.cons (o := _) (by simp only [List.getElem?_toArray, List.getElem?_cons_succ, List.getElem?_cons_zero]; rfl) (fun K hK => ?_) (AllReadyH.cons (o := _) (by simp only [List.getElem?_toArray, List.getElem?_cons_succ, List.getElem?_cons_zero]; rfl) (fun K hK => ?_) AllReadyH.nil)
                      · go_simp
                        go_at_call 17
                        (with_reducible refine (HG2.out _ (HS.out.low.chain (Below.refl _ _).drew)).mono ?_)
                        rintro e wx ⟨⟨fk, fn, ft, fA, fa, fb, fA', fa', fb', rfl, hvx⟩, hbx⟩
                        have hbx' := below_drew2 _ _ hbx
                        have HBX := Lib.hid hbx'; have HVX := Lib.hid hvx
                        clear hbx hbx' hvx
                        dsimp only
                        refine hK.out _ _ (HD2.out wx HBX.out) (fun hHeld => ?_)
                        clear hK K
                        try simp only [Act.put, List.setIfInBounds_toArray, List.set_cons_zero, List.set_cons_succ]
                        refine wpAnyH_take (i := 5) (oi := _) (v := ?v21006) (by simp only [List.getElem?_toArray, List.getElem?_cons_succ, List.getElem?_cons_zero]; rfl) (by kernel_rfl) (by kernel_rfl) (by kernel_rfl) (by exact fun _ _ _ h => h) (Or.inl ⟨by rfl, ?hy21006⟩) (by assumption) ?rest21006
                        case hy21006 => (intro w hSw; (try dsimp only at hSw); go_simp; try with_reducible rfl)
                        try simp only [Act.put, List.setIfInBounds_toArray, List.set_cons_zero, List.set_cons_succ]
                        refine wpAnyH_take (i := 6) (oi := _) (v := ?v21007) (by simp only [List.getElem?_toArray, List.getElem?_cons_succ, List.getElem?_cons_zero]; rfl) (by kernel_rfl) (by kernel_rfl) (by kernel_rfl) (by exact fun _ _ _ h => h) (Or.inl ⟨by rfl, ?hy21007⟩) (by assumption) ?rest21007
                        case hy21007 => (intro w hSw; (try dsimp only at hSw); go_simp; try with_reducible rfl)
                        try simp only [Act.put, List.setIfInBounds_toArray, List.set_cons_zero, List.set_cons_succ]
                        refine wpAnyH_take (i := 7) (oi := _) (v := ?v21008) (by simp only [List.getElem?_toArray, List.getElem?_cons_succ, List.getElem?_cons_zero]; rfl) (by kernel_rfl) (by kernel_rfl) (by kernel_rfl) (by exact fun _ _ _ h => h) (Or.inl ⟨by rfl, ?hy21008⟩) (by assumption) ?rest21008
                        case hy21008 => (intro w hSw; (try dsimp only at hSw); go_simp; try with_reducible rfl)
                        try simp only [Act.put, List.setIfInBounds_toArray, List.set_cons_zero, List.set_cons_succ]
                        refine wpAnyH_ready (rs := [8]) (by kernel_rfl) (by simp) ?_
                        refine AllReadyH.cons (o := _) (by simp only [List.getElem?_toArray, List.getElem?_cons_succ, List.getElem?_cons_zero]; rfl) (fun K hK => ?_) AllReadyH.nil
                        go_simp
                        have HBA := Lib.hid (HBX.out.alloc HBX.out.size (.cells #[.int .i64 0, .int .i64 0, .string ⟨#[]⟩, .slice none 0 0, .slice none 0 0] 25))
                        obtain ⟨⟨z0, z1, z2, z3, z4⟩, y0, y1, y2, y3, y4⟩ := box_of (heap_alloc_last wx (.cells #[.int .i64 0, .int .i64 0, .string ⟨#[]⟩, .slice none 0 0, .slice none 0 0] 25))
                        refine hK.out _ _ (HD2.out _ HBA.out) (fun hHeld => ?_)
                        clear hK K
                        try simp only [Act.put, List.setIfInBounds_toArray, List.set_cons_zero, List.set_cons_succ]
                        refine wpAnyH_ready (rs := [9]) (by kernel_rfl) (by simp) ?_
                        refine AllReadyH.cons (o := _) (by simp only [List.getElem?_toArray, List.getElem?_cons_succ, List.getElem?_cons_zero]; rfl) (fun K hK => ?_) AllReadyH.nil
                        go_simp
                        refine hK.out _ _ (HD2.out _ (HBX.out.alloc HBX.out.size _)) (fun hHeld => ?_)
                        clear hK K
                        try simp only [Act.put, List.setIfInBounds_toArray, List.set_cons_zero, List.set_cons_succ]
                        refine wpAnyH_ready (rs := [10]) (by kernel_rfl) (by simp) ?_
                        refine AllReadyH.cons (o := _) (by simp only [List.getElem?_toArray, List.getElem?_cons_succ, List.getElem?_cons_zero]; rfl) (fun K hK => ?_) AllReadyH.nil
                        go_simp
                        refine hK.out _ _ (HD2.out _ (HBX.out.alloc HBX.out.size _)) (fun hHeld => ?_)
                        clear hK K
                        try simp only [Act.put, List.setIfInBounds_toArray, List.set_cons_zero, List.set_cons_succ]
                        refine wpAnyH_done (by kernel_rfl) ?_ _
                        go_wp2_with fail
                        go_meet
                        first
                          | exact ⟨_, _, _, _, _, _, _, _, _, _, rfl, rfl, HBX.out.size, heap_alloc_last wx _, HVX.out.below (((Below.refl _ _).alloc (Nat.le_refl _) _).mono (by have := HBX.out.size; omega)), HBX.out.alloc HBX.out.size _⟩
                          | exact ⟨_, _, _, _, _, _, _, _, _, _, rfl, rfl, Nat.le_refl _, (show (set5 wx wd.heap.size 0 (.int .i64 fk) (.int .i64 fn) (.string ft) (.slice fA fa fb) (.slice fA' fa' fb')).heap[wd.heap.size]? = some (.cells #[.int .i64 fk, .int .i64 fn, .string ft, .slice fA fa fb, .slice fA' fa' fb'] 25 (0, 0)) from by simpa using set5_here (o := 0) (c0 := .int .i64 fk) (c1 := .int .i64 fn) (c2 := .string ft) (c3 := .slice fA fa fb) (c4 := .slice fA' fa' fb') Z5.out), HVX.out.below (set5_below (B := w.heap.size) (w := wx) (b := wd.heap.size) (by omega)), HBX.out.trans (set5_below (Nat.le_refl _))⟩
                      · go_simp
                        have HQA := Lib.hid ((Below.refl wd.heap.size wd).alloc (Nat.le_refl _) (.cells #[.int .i64 0, .int .i64 0, .string ⟨#[]⟩, .slice none 0 0, .slice none 0 0] 25)).drew
                        refine hK.out _ _ (HD2.out _ HQA.out) (fun hHeld => ?_)
                        clear hK K
                        try simp only [Act.put, List.setIfInBounds_toArray, List.set_cons_zero, List.set_cons_succ]
                        refine wpAnyH_ready (rs := [4]) (by kernel_rfl) (by simp) ?_
                        refine AllReadyH.cons (o := _) (by simp only [List.getElem?_toArray, List.getElem?_cons_succ, List.getElem?_cons_zero]; rfl) (fun K hK => ?_) AllReadyH.nil
                        go_simp
                        go_at_call 17
                        (with_reducible refine (HG2.out _ (HS.out.low.chain HQA.out)).mono ?_)
                        rintro e wx ⟨⟨fk, fn, ft, fA, fa, fb, fA', fa', fb', rfl, hvx⟩, hbx⟩
                        have hbx' := HQA.out.chain hbx
                        have z5 : wx.heap[wd.heap.size]? = some (.cells #[.int .i64 0, .int .i64 0, .string ⟨#[]⟩, .slice none 0 0, .slice none 0 0] 25 (0, 0)) := blk_below (drew_block (heap_alloc_last wd _)) hbx
                        obtain ⟨⟨z0, z1, z2, z3, z4⟩, y0, y1, y2, y3, y4⟩ := box_of z5
                        have Z5 := Lib.hid z5
                        have HBX := Lib.hid hbx'; have HVX := Lib.hid hvx
                        clear hbx hbx' hvx z5
                        dsimp only
                        refine hK.out _ _ (HD2.out wx HBX.out) (fun hHeld => ?_)
                        clear hK K
                        try simp only [Act.put, List.setIfInBounds_toArray, List.set_cons_zero, List.set_cons_succ]
                        refine wpAnyH_take (i := 5) (oi := _) (v := ?v21013) (by simp only [List.getElem?_toArray, List.getElem?_cons_succ, List.getElem?_cons_zero]; rfl) (by kernel_rfl) (by kernel_rfl) (by kernel_rfl) (by exact fun _ _ _ h => h) (Or.inl ⟨by rfl, ?hy21013⟩) (by assumption) ?rest21013
                        case hy21013 => (intro w hSw; (try dsimp only at hSw); go_simp; try with_reducible rfl)
                        try simp only [Act.put, List.setIfInBounds_toArray, List.set_cons_zero, List.set_cons_succ]
                        refine wpAnyH_take (i := 6) (oi := _) (v := ?v21014) (by simp only [List.getElem?_toArray, List.getElem?_cons_succ, List.getElem?_cons_zero]; rfl) (by kernel_rfl) (by kernel_rfl) (by kernel_rfl) (by exact fun _ _ _ h => h) (Or.inl ⟨by rfl, ?hy21014⟩) (by assumption) ?rest21014
                        case hy21014 => (intro w hSw; (try dsimp only at hSw); go_simp; try with_reducible rfl)
                        try simp only [Act.put, List.setIfInBounds_toArray, List.set_cons_zero, List.set_cons_succ]
                        refine wpAnyH_take (i := 7) (oi := _) (v := ?v21015) (by simp only [List.getElem?_toArray, List.getElem?_cons_succ, List.getElem?_cons_zero]; rfl) (by kernel_rfl) (by kernel_rfl) (by kernel_rfl) (by exact fun _ _ _ h => h) (Or.inl ⟨by rfl, ?hy21015⟩) (by assumption) ?rest21015
                        case hy21015 => (intro w hSw; (try dsimp only at hSw); go_simp; try with_reducible rfl)
                        try simp only [Act.put, List.setIfInBounds_toArray, List.set_cons_zero, List.set_cons_succ]
                        refine wpAnyH_ready (rs := [9]) (by kernel_rfl) (by simp) ?_
                        refine AllReadyH.cons (o := _) (by simp only [List.getElem?_toArray, List.getElem?_cons_succ, List.getElem?_cons_zero]; rfl) (fun K hK => ?_) AllReadyH.nil
                        go_simp
                        refine hK.out _ _ (HD2.out _ (HBX.out.trans (set5_below (Nat.le_refl _)))) (fun hHeld => ?_)
                        clear hK K
                        try simp only [Act.put, List.setIfInBounds_toArray, List.set_cons_zero, List.set_cons_succ]
                        refine wpAnyH_ready (rs := [10]) (by kernel_rfl) (by simp) ?_
                        refine AllReadyH.cons (o := _) (by simp only [List.getElem?_toArray, List.getElem?_cons_succ, List.getElem?_cons_zero]; rfl) (fun K hK => ?_) AllReadyH.nil
                        go_simp
                        refine hK.out _ _ (HD2.out _ (HBX.out.trans (set5_below (Nat.le_refl _)))) (fun hHeld => ?_)
                        clear hK K
                        try simp only [Act.put, List.setIfInBounds_toArray, List.set_cons_zero, List.set_cons_succ]
                        refine wpAnyH_done (by kernel_rfl) ?_ _
                        go_wp2_with fail
                        go_meet
                        first
                          | exact ⟨_, _, _, _, _, _, _, _, _, _, rfl, rfl, HBX.out.size, heap_alloc_last wx _, HVX.out.below (((Below.refl _ _).alloc (Nat.le_refl _) _).mono (by have := HBX.out.size; omega)), HBX.out.alloc HBX.out.size _⟩
                          | exact ⟨_, _, _, _, _, _, _, _, _, _, rfl, rfl, Nat.le_refl _, (show (set5 wx wd.heap.size 0 (.int .i64 fk) (.int .i64 fn) (.string ft) (.slice fA fa fb) (.slice fA' fa' fb')).heap[wd.heap.size]? = some (.cells #[.int .i64 fk, .int .i64 fn, .string ft, .slice fA fa fb, .slice fA' fa' fb'] 25 (0, 0)) from by simpa using set5_here (o := 0) (c0 := .int .i64 fk) (c1 := .int .i64 fn) (c2 := .string ft) (c3 := .slice fA fa fb) (c4 := .slice fA' fa' fb') Z5.out), HVX.out.below (set5_below (B := w.heap.size) (w := wx) (b := wd.heap.size) (by omega)), HBX.out.trans (set5_below (Nat.le_refl _))⟩
                    case rest =>
                      obtain ⟨bq, jk, jn, jt, jA, ja, jb, jA', ja', jb', rfl, rfl, hp2, hbox2, hvx2, hbc2⟩ := hcut
                      -- NEED
                      have S2 := HS.out.later hbc2
                      obtain ⟨J, hJ⟩ : ∃ J, (fieldV (r.args.getD 0 []) v).getD V.zero = J := ⟨_, rfl⟩
                      rw [hJ] at hvx2
                      obtain ⟨s, hs⟩ : ∃ s, r.args.getD 1 [] = s := ⟨_, rfl⟩
                      have hK1s := HK1.out
                      rw [hs] at hK1s
                      obtain ⟨_, _, _, _, hje⟩ := hvx2.form
                      simp only [List.cons.injEq, Value.int.injEq, Value.string.injEq, Value.slice.injEq, true_and] at hje
                      obtain ⟨hjk, -, hjt, ⟨-, hja, -⟩, -⟩ := hje
                      have his := fun W => refIs_any J s K1 hK1s jk jn jt jA ja jb jA' ja' jb' hjk hjt W
                      have hit : ∀ (q : Nat) (x : V), J.list[q]? = some x → ∃ ib io, jA = some ⟨ib, io, none⟩ ∧ ib < w.heap.size ∧ ∃ ik inn it iA ia ic iA' ia' ic', (∀ W, Below wc.heap.size wc W → W.cell? ⟨ib, io + q * 5, none⟩ = some (.int .i64 ik) ∧ W.cell? ⟨ib, io + q * 5 + 1, none⟩ = some (.int .i64 inn) ∧ W.cell? ⟨ib, io + q * 5 + 2, none⟩ = some (.string it) ∧ W.cell? ⟨ib, io + q * 5 + 3, none⟩ = some (.slice iA ia ic) ∧ W.cell? ⟨ib, io + q * 5 + 4, none⟩ = some (.slice iA' ia' ic')) ∧ ∀ W, Calls Tryd.prog 26 #[.agg #[.int .i64 ik, .int .i64 inn, .string it, .slice iA ia ic, .slice iA' ia' ic'], .string K1] W fun e w' => e = .returned (.bool (isW x s)) ∧ Below W.heap.size W w' := fun q x hqx => by
                        obtain ⟨a1, a2, a3, l, ks⟩ := J
                        obtain ⟨hq, rfl⟩ := List.getElem?_eq_some_iff.1 hqx
                        obtain ⟨-, A0, c0, A0', c0', hcs, -, hitems⟩ := hvx2.out
                        simp only [List.cons.injEq, Value.slice.injEq] at hcs
                        obtain ⟨ib, io, e1, -, hib, cs, hfive, hvi⟩ := VIs.item hitems q hq
                        obtain ⟨_, _, _, _, hform⟩ := hvi.form
                        subst hform
                        obtain ⟨c0, c1, c2, c3, c4, hc, m0, m1, m2, m3, m4⟩ := hfive.out
                        simp only [List.cons.injEq, and_true] at hc
                        obtain ⟨rfl, rfl, rfl, rfl, rfl⟩ := hc
                        have hlt : ib < wc.heap.size := Nat.lt_of_lt_of_le hib S2.low.size
                        exact ⟨ib, io, hcs.2.2.2.1.1.trans e1, hib, _, _, _, _, _, _, _, _, _, fun W hb => ⟨(hb.cell (p := ⟨ib, io + q * 5, none⟩) hlt).trans m0, (hb.cell (p := ⟨ib, io + q * 5 + 1, none⟩) hlt).trans m1, (hb.cell (p := ⟨ib, io + q * 5 + 2, none⟩) hlt).trans m2, (hb.cell (p := ⟨ib, io + q * 5 + 3, none⟩) hlt).trans m3, (hb.cell (p := ⟨ib, io + q * 5 + 4, none⟩) hlt).trans m4⟩, fun W => refIs_any _ s K1 hK1s _ _ _ _ _ _ _ _ _ rfl rfl W⟩
                      have hqw : bq < wc.heap.size := (Array.getElem?_eq_some_iff.1 hbox2).1
                      have hgc : g2 < wc.heap.size := by have := hbc2.size; omega
                      have f2 := (hbc2.cell (p := ⟨g2, o2 + 2, none⟩) hg2c).trans e2
                      have hcb : ∀ W, Below wc.heap.size wc W → (W.cell? ⟨bq, 0, none⟩ = some (.int .i64 jk) ∧ W.cell? ⟨bq, 1, none⟩ = some (.int .i64 jn) ∧ W.cell? ⟨bq, 2, none⟩ = some (.string jt) ∧ W.cell? ⟨bq, 3, none⟩ = some (.slice jA ja jb) ∧ W.cell? ⟨bq, 4, none⟩ = some (.slice jA' ja' jb') ∧ W.cell? ⟨g2, o2 + 2, none⟩ = some (.string K1)) := fun W hb => by
                        have kb := blk_below hbox2 hb
                        exact ⟨cell_here kb, cell_here kb, cell_here kb, cell_here kb, cell_here kb, (hb.cell (p := ⟨g2, o2 + 2, none⟩) hgc).trans f2⟩
                      have hstep : stepR v out r = if needB J s = true then some out else none := by
                        unfold stepR
                        dsimp only
                        rw [if_neg ho1, if_neg ho2, if_neg ho3, if_pos ho4, hJ, hs]
                      have hneed : needB J s = (isW J s || (decide (jk = 5) && J.list.any (isW · s))) := by
                        unfold needB
                        rw [← hjk]
                      have hjl : J.list.length ≤ 9223372036854775807 := by
                        obtain ⟨a1, a2, a3, l, ks⟩ := J
                        have := hvx2.out.1
                        exact this.1
                      obtain ⟨lj, hlj⟩ : ∃ lj, J.list = lj := ⟨_, rfl⟩
                      rw [hlj] at hja hjl hneed hit
                      obtain ⟨w0, hw0⟩ : ∃ w0, isW J s = w0 := ⟨_, rfl⟩
                      rw [hw0] at his hneed
                      have HIS := Lib.hid his; have HIT := Lib.hid hit; have HCB := Lib.hid hcb; have HSTEP := Lib.hid hstep; have HNEED := Lib.hid hneed; have HJL := Lib.hid hja
                      have S2H := Lib.hid S2
                      clear his hit hcb hstep hneed hvx2 hbox2 hbc2 S2 hjt hK1s f2 hlj hw0 hja hJ hs hjk
                      go_upto_region 22 with fail
                      refine wp_region_held_drew (S := (fun W => W.cell? ⟨bq, 0, none⟩ = some (.int .i64 jk) ∧ W.cell? ⟨bq, 1, none⟩ = some (.int .i64 jn) ∧ W.cell? ⟨bq, 2, none⟩ = some (.string jt) ∧ W.cell? ⟨bq, 3, none⟩ = some (.slice jA ja jb) ∧ W.cell? ⟨bq, 4, none⟩ = some (.slice jA' ja' jb') ∧ W.cell? ⟨g2, o2 + 2, none⟩ = some (.string K1))) (by kernel_rfl) (HCB.out _ (Below.refl _ _).drew) (fun hHeld => ?_)
                      refine wpAnyH_take (i := 0) (oi := _) (v := ?v22001) (by simp only [List.getElem?_toArray, List.getElem?_cons_succ, List.getElem?_cons_zero]; rfl) (by kernel_rfl) (by kernel_rfl) (by kernel_rfl) (by exact fun _ _ _ h => h) (Or.inl ⟨by rfl, ?hy22001⟩) (by assumption) ?rest22001
                      case hy22001 => (intro w hSw; (try dsimp only at hSw); go_simp; try with_reducible rfl)
                      try simp only [Act.put, List.setIfInBounds_toArray, List.set_cons_zero, List.set_cons_succ]
                      refine wpAnyH_take (i := 1) (oi := _) (v := ?v22002) (by simp only [List.getElem?_toArray, List.getElem?_cons_succ, List.getElem?_cons_zero]; rfl) (by kernel_rfl) (by kernel_rfl) (by kernel_rfl) (by exact fun _ _ _ h => h) (Or.inl ⟨by rfl, ?hy22002⟩) (by assumption) ?rest22002
                      case hy22002 => (intro w hSw; (try dsimp only at hSw); go_simp; try with_reducible rfl)
                      try simp only [Act.put, List.setIfInBounds_toArray, List.set_cons_zero, List.set_cons_succ]
                      refine wpAnyH_take (i := 2) (oi := _) (v := ?v22003) (by simp only [List.getElem?_toArray, List.getElem?_cons_succ, List.getElem?_cons_zero]; rfl) (by kernel_rfl) (by kernel_rfl) (by kernel_rfl) (by exact fun _ _ _ h => h) (Or.inl ⟨by rfl, ?hy22003⟩) (by assumption) ?rest22003
                      case hy22003 => (intro w hSw; (try dsimp only at hSw); go_simp; try with_reducible rfl)
                      try simp only [Act.put, List.setIfInBounds_toArray, List.set_cons_zero, List.set_cons_succ]
                      refine wpAnyH_take (i := 3) (oi := _) (v := ?v22004) (by simp only [List.getElem?_toArray, List.getElem?_cons_succ, List.getElem?_cons_zero]; rfl) (by kernel_rfl) (by kernel_rfl) (by kernel_rfl) (by exact fun _ _ _ h => h) (Or.inl ⟨by rfl, ?hy22004⟩) (by assumption) ?rest22004
                      case hy22004 => (intro w hSw; (try dsimp only at hSw); go_simp; try with_reducible rfl)
                      try simp only [Act.put, List.setIfInBounds_toArray, List.set_cons_zero, List.set_cons_succ]
                      refine wpAnyH_ready (rs := [4]) (by kernel_rfl) (by simp) ?_
                      refine AllReadyH.cons (o := _) (by simp only [List.getElem?_toArray, List.getElem?_cons_succ, List.getElem?_cons_zero]; rfl) (fun K hK => ?_) AllReadyH.nil
                      go_simp
                      go_at_call 26
                      (with_reducible refine (HIS.out _).mono ?_)
                      rintro e wi ⟨rfl, hbi⟩
                      have QI := Lib.hid ((Below.refl wc.heap.size wc).drew.chain hbi); clear hbi
                      dsimp only
                      refine hK.out _ _ (HCB.out _ QI.out) (fun hHeld => ?_)
                      clear hK K
                      try simp only [Act.put, List.setIfInBounds_toArray, List.set_cons_zero, List.set_cons_succ]
                      refine wpAnyH_take (i := 5) (oi := _) (v := ?v22006) (by simp only [List.getElem?_toArray, List.getElem?_cons_succ, List.getElem?_cons_zero]; rfl) (by kernel_rfl) (by kernel_rfl) (by kernel_rfl) (by exact fun _ _ _ h => h) (Or.inl ⟨by rfl, ?hy22006⟩) (by assumption) ?rest22006
                      case hy22006 => (intro w hSw; (try dsimp only at hSw); go_simp; try with_reducible rfl)
                      try simp only [Act.put, List.setIfInBounds_toArray, List.set_cons_zero, List.set_cons_succ]
                      refine wpAnyH_done (by kernel_rfl) ?_ _
                      go_wp2_with fail
                      go_loopw [15, 16] (fun b i W => ∃ (q : Nat) (B : Bool), q ≤ ja ∧ i = .int .i64 q ∧ b = .bool B ∧ Hid (B = (w0 || (decide (jk = 5) && (lj.take q).any (isW · s))) ∧ Below wc.heap.size wc W)) (fun _ i _ => ja - (intOf i).toNat)
                      case atStart => exact ⟨0, w0, Nat.zero_le _, rfl, rfl, Lib.hid ⟨by simp, QI.out⟩⟩
                      case round =>
                        obtain ⟨q, B, hq, rfl, rfl, hT⟩ := hrel
                        obtain ⟨b0, b1, b2, b3, b4, b5⟩ := HCB.out _ hT.out.2
                        by_cases hk5 : jk = 5
                        case neg =>
                          have q1 : (jk == 5) = false := by simpa using hk5
                          have hB : B = needB J s := by rw [hT.out.1, HNEED.out, decide_eq_false hk5]; simp
                          have S3 := S2H.out.later hT.out.2
                          cases B with
                          | true =>
                            have hst : stepR v out r = some out := by rw [HSTEP.out, ← hB]; rfl
                            have HF2 := Lib.hid (HYES.out _ hst)
                            have S3H := Lib.hid S3
                            clear S3 hst hB
                            go_wp2_with fail
                            refine ⟨⟨k + 1, _, _, by omega, by go_num, HF2.out, S3H.out⟩, ?_⟩
                            simp [intOf]; omega
                          | false =>
                            have hst : stepR v out r = none := by rw [HSTEP.out, ← hB]; rfl
                            obtain rfl := HNONE.out hst
                            obtain ⟨⟨p0, p1, p2, p3, p4⟩, q0, qq1, qq2, qq3, qq4⟩ := box_of S3.b1
                            have hzb := set5_here (o := 0) (c0 := .int .i64 0) (c1 := .int .i64 0) (c2 := .string ⟨#[]⟩) (c3 := .slice none 0 0) (c4 := .slice none 0 0) S3.b1
                            obtain ⟨wf, hwf⟩ : ∃ wf, wf = set5 wr (w.heap.size + 1) 0 (.int .i64 0) (.int .i64 0) (.string ⟨#[]⟩) (.slice none 0 0) (.slice none 0 0) := ⟨_, rfl⟩
                            have hbf : Below w.heap.size w wf := by rw [hwf]; exact S3.low.trans (set5_below (by omega))
                            rw [← hwf] at hzb
                            obtain ⟨⟨y0, y1, y2, y3, y4⟩, -⟩ := box_of (by simpa using hzb)
                            have HBF := Lib.hid hbf; have HWF := Lib.hid hwf
                            clear S3 hbf hwf hzb hst hB
                            go_wp2_with fail
                            change bodyPost _ _ _ _ _ (set5 wr (w.heap.size + 1) 0 (.int .i64 0) (.int .i64 0) (.string ⟨#[]⟩) (.slice none 0 0) (.slice none 0 0))
                            rw [← HWF.out]
                            refine bodyPost_ret (v := .tuple #[.agg #[.int .i64 0, .int .i64 0, .string ⟨#[]⟩, .slice none 0 0, .slice none 0 0], .bool false]) (by simp [results, Tryd.results13, go_sem, y0, y1, y2, y3, y4]) rfl ?_
                            exact run_none HBF.out
                        subst hk5
                        by_cases hlt : q < ja
                        case neg =>
                          have q2 : decide ((q : Int) < ja) = false := by simp; omega
                          have q3 : decide (q < ja) = false := by simp; omega
                          have hB : B = needB J s := by
                            rw [hT.out.1, HNEED.out, List.take_of_length_le (by have := HJL.out; omega)]
                          have S3 := S2H.out.later hT.out.2
                          cases B with
                          | true =>
                            have hst : stepR v out r = some out := by rw [HSTEP.out, ← hB]; rfl
                            have HF2 := Lib.hid (HYES.out _ hst)
                            have S3H := Lib.hid S3
                            clear S3 hst hB
                            go_wp2_with fail
                            refine ⟨⟨k + 1, _, _, by omega, by go_num, HF2.out, S3H.out⟩, ?_⟩
                            simp [intOf]; omega
                          | false =>
                            have hst : stepR v out r = none := by rw [HSTEP.out, ← hB]; rfl
                            obtain rfl := HNONE.out hst
                            obtain ⟨⟨p0, p1, p2, p3, p4⟩, q0, qq1, qq2, qq3, qq4⟩ := box_of S3.b1
                            have hzb := set5_here (o := 0) (c0 := .int .i64 0) (c1 := .int .i64 0) (c2 := .string ⟨#[]⟩) (c3 := .slice none 0 0) (c4 := .slice none 0 0) S3.b1
                            obtain ⟨wf, hwf⟩ : ∃ wf, wf = set5 wr (w.heap.size + 1) 0 (.int .i64 0) (.int .i64 0) (.string ⟨#[]⟩) (.slice none 0 0) (.slice none 0 0) := ⟨_, rfl⟩
                            have hbf : Below w.heap.size w wf := by rw [hwf]; exact S3.low.trans (set5_below (by omega))
                            rw [← hwf] at hzb
                            obtain ⟨⟨y0, y1, y2, y3, y4⟩, -⟩ := box_of (by simpa using hzb)
                            have HBF := Lib.hid hbf; have HWF := Lib.hid hwf
                            clear S3 hbf hwf hzb hst hB
                            go_wp2_with fail
                            change bodyPost _ _ _ _ _ (set5 wr (w.heap.size + 1) 0 (.int .i64 0) (.int .i64 0) (.string ⟨#[]⟩) (.slice none 0 0) (.slice none 0 0))
                            rw [← HWF.out]
                            refine bodyPost_ret (v := .tuple #[.agg #[.int .i64 0, .int .i64 0, .string ⟨#[]⟩, .slice none 0 0, .slice none 0 0], .bool false]) (by simp [results, Tryd.results13, go_sem, y0, y1, y2, y3, y4]) rfl ?_
                            exact run_none HBF.out
                        have q2 : decide ((q : Int) < ja) = true := by simp; omega
                        have q3 : decide (q < ja) = true := by simp; omega
                        have hql : q < lj.length := by have := HJL.out; omega
                        obtain ⟨x, hx⟩ : ∃ x, lj[q]? = some x := ⟨_, List.getElem?_eq_getElem hql⟩
                        obtain ⟨ib, io, rfl, hib, ik, inn, it, iA, ia, ic, iA', ia', ic', hic, hii⟩ := HIT.out q x hx
                        have HX2 := Lib.hid hx
                        have HIC := Lib.hid hic; have HII := Lib.hid hii
                        have gq1 : (0 : Int) ≤ q := by omega
                        have gq2 : (q : Int) < ja := by omega
                        clear hic hii hx
                        go_upto_region 26 with fail
                        clear b0 b1 b2 b3 b4 b5
                        cases B with
                        | true =>
                          have HB0 := Lib.hid hT.out.1
                          refine wp_region_held_drew (S := (fun W => (W.cell? ⟨bq, 0, none⟩ = some (.int .i64 5) ∧ W.cell? ⟨bq, 1, none⟩ = some (.int .i64 jn) ∧ W.cell? ⟨bq, 2, none⟩ = some (.string jt) ∧ W.cell? ⟨bq, 3, none⟩ = some (.slice (some ⟨ib, io, none⟩) ja jb) ∧ W.cell? ⟨bq, 4, none⟩ = some (.slice jA' ja' jb') ∧ W.cell? ⟨g2, o2 + 2, none⟩ = some (.string K1)) ∧ W.cell? ⟨ib, io + q * 5, none⟩ = some (.int .i64 ik) ∧ W.cell? ⟨ib, io + q * 5 + 1, none⟩ = some (.int .i64 inn) ∧ W.cell? ⟨ib, io + q * 5 + 2, none⟩ = some (.string it) ∧ W.cell? ⟨ib, io + q * 5 + 3, none⟩ = some (.slice iA ia ic) ∧ W.cell? ⟨ib, io + q * 5 + 4, none⟩ = some (.slice iA' ia' ic'))) (by kernel_rfl) (⟨HCB.out _ hT.out.2.drew, HIC.out _ hT.out.2.drew⟩) (fun hHeld => ?_)
                          refine wpAnyH_take (i := 0) (oi := _) (v := ?v22007) (by simp only [List.getElem?_toArray, List.getElem?_cons_succ, List.getElem?_cons_zero]; rfl) (by kernel_rfl) (by kernel_rfl) (by kernel_rfl) (by exact fun _ _ _ h => h) (Or.inl ⟨by rfl, ?hy22007⟩) (by assumption) ?rest22007
                          case hy22007 => (intro w hSw; (try dsimp only at hSw); go_simp; try with_reducible rfl)
                          try simp only [Act.put, List.setIfInBounds_toArray, List.set_cons_zero, List.set_cons_succ]
                          refine wpAnyH_take (i := 1) (oi := _) (v := ?v22008) (by simp only [List.getElem?_toArray, List.getElem?_cons_succ, List.getElem?_cons_zero]; rfl) (by kernel_rfl) (by kernel_rfl) (by kernel_rfl) (by exact fun _ _ _ h => h) (Or.inl ⟨by rfl, ?hy22008⟩) (by assumption) ?rest22008
                          case hy22008 => (intro w hSw; (try dsimp only at hSw); go_simp; try with_reducible rfl)
                          try simp only [Act.put, List.setIfInBounds_toArray, List.set_cons_zero, List.set_cons_succ]
                          refine wpAnyH_take (i := 2) (oi := _) (v := undef) (by simp only [List.getElem?_toArray, List.getElem?_cons_succ, List.getElem?_cons_zero]; rfl) (by kernel_rfl) (by kernel_rfl) (by kernel_rfl) (by exact fun _ _ _ h => h) (Or.inr ⟨by rfl, rfl⟩) (by assumption) ?rest22009
                          try simp only [Act.put, List.setIfInBounds_toArray, List.set_cons_zero, List.set_cons_succ]
                          refine wpAnyH_take (i := 3) (oi := _) (v := undef) (by simp only [List.getElem?_toArray, List.getElem?_cons_succ, List.getElem?_cons_zero]; rfl) (by kernel_rfl) (by kernel_rfl) (by kernel_rfl) (by exact fun _ _ _ h => h) (Or.inr ⟨by rfl, rfl⟩) (by assumption) ?rest22010
                          try simp only [Act.put, List.setIfInBounds_toArray, List.set_cons_zero, List.set_cons_succ]
                          refine wpAnyH_take (i := 4) (oi := _) (v := undef) (by simp only [List.getElem?_toArray, List.getElem?_cons_succ, List.getElem?_cons_zero]; rfl) (by kernel_rfl) (by kernel_rfl) (by kernel_rfl) (by exact fun _ _ _ h => h) (Or.inr ⟨by rfl, rfl⟩) (by assumption) ?rest22011
                          try simp only [Act.put, List.setIfInBounds_toArray, List.set_cons_zero, List.set_cons_succ]
                          refine wpAnyH_take (i := 5) (oi := _) (v := undef) (by simp only [List.getElem?_toArray, List.getElem?_cons_succ, List.getElem?_cons_zero]; rfl) (by kernel_rfl) (by kernel_rfl) (by kernel_rfl) (by exact fun _ _ _ h => h) (Or.inr ⟨by rfl, rfl⟩) (by assumption) ?rest22012
                          try simp only [Act.put, List.setIfInBounds_toArray, List.set_cons_zero, List.set_cons_succ]
                          refine wpAnyH_take (i := 6) (oi := _) (v := undef) (by simp only [List.getElem?_toArray, List.getElem?_cons_succ, List.getElem?_cons_zero]; rfl) (by kernel_rfl) (by kernel_rfl) (by kernel_rfl) (by exact fun _ _ _ h => h) (Or.inr ⟨by rfl, rfl⟩) (by assumption) ?rest22013
                          try simp only [Act.put, List.setIfInBounds_toArray, List.set_cons_zero, List.set_cons_succ]
                          refine wpAnyH_take (i := 7) (oi := _) (v := undef) (by simp only [List.getElem?_toArray, List.getElem?_cons_succ, List.getElem?_cons_zero]; rfl) (by kernel_rfl) (by kernel_rfl) (by kernel_rfl) (by exact fun _ _ _ h => h) (Or.inr ⟨by rfl, rfl⟩) (by assumption) ?rest22014
                          try simp only [Act.put, List.setIfInBounds_toArray, List.set_cons_zero, List.set_cons_succ]
                          refine wpAnyH_take (i := 8) (oi := _) (v := undef) (by simp only [List.getElem?_toArray, List.getElem?_cons_succ, List.getElem?_cons_zero]; rfl) (by kernel_rfl) (by kernel_rfl) (by kernel_rfl) (by exact fun _ _ _ h => h) (Or.inr ⟨by rfl, rfl⟩) (by assumption) ?rest22015
                          try simp only [Act.put, List.setIfInBounds_toArray, List.set_cons_zero, List.set_cons_succ]
                          refine wpAnyH_take (i := 9) (oi := _) (v := undef) (by simp only [List.getElem?_toArray, List.getElem?_cons_succ, List.getElem?_cons_zero]; rfl) (by kernel_rfl) (by kernel_rfl) (by kernel_rfl) (by exact fun _ _ _ h => h) (Or.inr ⟨by rfl, rfl⟩) (by assumption) ?rest22016
                          try simp only [Act.put, List.setIfInBounds_toArray, List.set_cons_zero, List.set_cons_succ]
                          refine wpAnyH_take (i := 10) (oi := _) (v := undef) (by simp only [List.getElem?_toArray, List.getElem?_cons_succ, List.getElem?_cons_zero]; rfl) (by kernel_rfl) (by kernel_rfl) (by kernel_rfl) (by exact fun _ _ _ h => h) (Or.inr ⟨by rfl, rfl⟩) (by assumption) ?rest22017
                          try simp only [Act.put, List.setIfInBounds_toArray, List.set_cons_zero, List.set_cons_succ]
                          refine wpAnyH_take (i := 11) (oi := _) (v := ?v22018) (by simp only [List.getElem?_toArray, List.getElem?_cons_succ, List.getElem?_cons_zero]; rfl) (by kernel_rfl) (by kernel_rfl) (by kernel_rfl) (by exact fun _ _ _ h => h) (Or.inl ⟨by rfl, ?hy22018⟩) (by assumption) ?rest22018
                          case hy22018 => (intro w hSw; (try dsimp only at hSw); go_simp; try with_reducible rfl)
                          try simp only [Act.put, List.setIfInBounds_toArray, List.set_cons_zero, List.set_cons_succ]
                          refine wpAnyH_take (i := 12) (oi := _) (v := ?v22019) (by simp only [List.getElem?_toArray, List.getElem?_cons_succ, List.getElem?_cons_zero]; rfl) (by kernel_rfl) (by kernel_rfl) (by kernel_rfl) (by exact fun _ _ _ h => h) (Or.inl ⟨by rfl, ?hy22019⟩) (by assumption) ?rest22019
                          case hy22019 => (intro w hSw; (try dsimp only at hSw); go_simp; try with_reducible rfl)
                          try simp only [Act.put, List.setIfInBounds_toArray, List.set_cons_zero, List.set_cons_succ]
                          refine wpAnyH_done (by kernel_rfl) ?_ _
                          go_wp2
                          go_roundw
                          case rel => exact ⟨q + 1, true, by omega, by go_num, rfl, Lib.hid ⟨(need_yes (b := isW x s) HB0.out).trans (by rw [take_any _ _ _ _ HX2.out]; simp), hT.out.2.drew⟩⟩
                          case measure => simp [intOf]; omega
                        | false =>
                          have HB0 := Lib.hid hT.out.1
                          refine wp_region_held_drew (S := (fun W => (W.cell? ⟨bq, 0, none⟩ = some (.int .i64 5) ∧ W.cell? ⟨bq, 1, none⟩ = some (.int .i64 jn) ∧ W.cell? ⟨bq, 2, none⟩ = some (.string jt) ∧ W.cell? ⟨bq, 3, none⟩ = some (.slice (some ⟨ib, io, none⟩) ja jb) ∧ W.cell? ⟨bq, 4, none⟩ = some (.slice jA' ja' jb') ∧ W.cell? ⟨g2, o2 + 2, none⟩ = some (.string K1)) ∧ W.cell? ⟨ib, io + q * 5, none⟩ = some (.int .i64 ik) ∧ W.cell? ⟨ib, io + q * 5 + 1, none⟩ = some (.int .i64 inn) ∧ W.cell? ⟨ib, io + q * 5 + 2, none⟩ = some (.string it) ∧ W.cell? ⟨ib, io + q * 5 + 3, none⟩ = some (.slice iA ia ic) ∧ W.cell? ⟨ib, io + q * 5 + 4, none⟩ = some (.slice iA' ia' ic'))) (by kernel_rfl) (⟨HCB.out _ hT.out.2.drew, HIC.out _ hT.out.2.drew⟩) (fun hHeld => ?_)
                          refine wpAnyH_take (i := 0) (oi := _) (v := ?v22020) (by simp only [List.getElem?_toArray, List.getElem?_cons_succ, List.getElem?_cons_zero]; rfl) (by kernel_rfl) (by kernel_rfl) (by kernel_rfl) (by exact fun _ _ _ h => h) (Or.inl ⟨by rfl, ?hy22020⟩) (by assumption) ?rest22020
                          case hy22020 => (intro w hSw; (try dsimp only at hSw); go_simp; try with_reducible rfl)
                          try simp only [Act.put, List.setIfInBounds_toArray, List.set_cons_zero, List.set_cons_succ]
                          refine wpAnyH_take (i := 1) (oi := _) (v := ?v22021) (by simp only [List.getElem?_toArray, List.getElem?_cons_succ, List.getElem?_cons_zero]; rfl) (by kernel_rfl) (by kernel_rfl) (by kernel_rfl) (by exact fun _ _ _ h => h) (Or.inl ⟨by rfl, ?hy22021⟩) (by assumption) ?rest22021
                          case hy22021 => (intro w hSw; (try dsimp only at hSw); go_simp; try with_reducible rfl)
                          try simp only [Act.put, List.setIfInBounds_toArray, List.set_cons_zero, List.set_cons_succ]
                          refine wpAnyH_take (i := 2) (oi := _) (v := ?v22022) (by simp only [List.getElem?_toArray, List.getElem?_cons_succ, List.getElem?_cons_zero]; rfl) (by kernel_rfl) (by kernel_rfl) (by kernel_rfl) (by exact fun _ _ _ h => h) (Or.inl ⟨by rfl, ?hy22022⟩) (by assumption) ?rest22022
                          case hy22022 => (intro w hSw; (try dsimp only at hSw); go_simp; try with_reducible rfl)
                          try simp only [Act.put, List.setIfInBounds_toArray, List.set_cons_zero, List.set_cons_succ]
                          refine wpAnyH_take (i := 3) (oi := _) (v := ?v22023) (by simp only [List.getElem?_toArray, List.getElem?_cons_succ, List.getElem?_cons_zero]; rfl) (by kernel_rfl) (by kernel_rfl) (by kernel_rfl) (by exact fun _ _ _ h => h) (Or.inl ⟨by rfl, ?hy22023⟩) (by assumption) ?rest22023
                          case hy22023 => (intro w hSw; (try dsimp only at hSw); go_simp; try with_reducible rfl)
                          try simp only [Act.put, List.setIfInBounds_toArray, List.set_cons_zero, List.set_cons_succ]
                          refine wpAnyH_take (i := 4) (oi := _) (v := ?v22024) (by simp only [List.getElem?_toArray, List.getElem?_cons_succ, List.getElem?_cons_zero]; rfl) (by kernel_rfl) (by kernel_rfl) (by kernel_rfl) (by exact fun _ _ _ h => h) (Or.inl ⟨by rfl, ?hy22024⟩) (by assumption) ?rest22024
                          case hy22024 => (intro w hSw; (try dsimp only at hSw); go_simp; try with_reducible rfl)
                          try simp only [Act.put, List.setIfInBounds_toArray, List.set_cons_zero, List.set_cons_succ]
                          refine wpAnyH_take (i := 5) (oi := _) (v := ?v22025) (by simp only [List.getElem?_toArray, List.getElem?_cons_succ, List.getElem?_cons_zero]; rfl) (by kernel_rfl) (by kernel_rfl) (by kernel_rfl) (by exact fun _ _ _ h => h) (Or.inl ⟨by rfl, ?hy22025⟩) (by assumption) ?rest22025
                          case hy22025 => (intro w hSw; (try dsimp only at hSw); go_simp; try with_reducible rfl)
                          try simp only [Act.put, List.setIfInBounds_toArray, List.set_cons_zero, List.set_cons_succ]
                          refine wpAnyH_take (i := 6) (oi := _) (v := ?v22026) (by simp only [List.getElem?_toArray, List.getElem?_cons_succ, List.getElem?_cons_zero]; rfl) (by kernel_rfl) (by kernel_rfl) (by kernel_rfl) (by exact fun _ _ _ h => h) (Or.inl ⟨by rfl, ?hy22026⟩) (by assumption) ?rest22026
                          case hy22026 => (intro w hSw; (try dsimp only at hSw); go_simp; try with_reducible rfl)
                          try simp only [Act.put, List.setIfInBounds_toArray, List.set_cons_zero, List.set_cons_succ]
                          refine wpAnyH_take (i := 7) (oi := _) (v := ?v22027) (by simp only [List.getElem?_toArray, List.getElem?_cons_succ, List.getElem?_cons_zero]; rfl) (by kernel_rfl) (by kernel_rfl) (by kernel_rfl) (by exact fun _ _ _ h => h) (Or.inl ⟨by rfl, ?hy22027⟩) (by assumption) ?rest22027
                          case hy22027 => (intro w hSw; (try dsimp only at hSw); go_simp; try with_reducible rfl)
                          try simp only [Act.put, List.setIfInBounds_toArray, List.set_cons_zero, List.set_cons_succ]
                          refine wpAnyH_take (i := 8) (oi := _) (v := ?v22028) (by simp only [List.getElem?_toArray, List.getElem?_cons_succ, List.getElem?_cons_zero]; rfl) (by kernel_rfl) (by kernel_rfl) (by kernel_rfl) (by exact fun _ _ _ h => h) (Or.inl ⟨by rfl, ?hy22028⟩) (by assumption) ?rest22028
                          case hy22028 => (intro w hSw; (try dsimp only at hSw); go_simp; try with_reducible rfl)
                          try simp only [Act.put, List.setIfInBounds_toArray, List.set_cons_zero, List.set_cons_succ]
                          refine wpAnyH_take (i := 9) (oi := _) (v := ?v22029) (by simp only [List.getElem?_toArray, List.getElem?_cons_succ, List.getElem?_cons_zero]; rfl) (by kernel_rfl) (by kernel_rfl) (by kernel_rfl) (by exact fun _ _ _ h => h) (Or.inl ⟨by rfl, ?hy22029⟩) (by assumption) ?rest22029
                          case hy22029 => (intro w hSw; (try dsimp only at hSw); go_simp; try with_reducible rfl)
                          try simp only [Act.put, List.setIfInBounds_toArray, List.set_cons_zero, List.set_cons_succ]
                          refine wpAnyH_ready (rs := [10]) (by kernel_rfl) (by simp) ?_
                          refine AllReadyH.cons (o := _) (by simp only [List.getElem?_toArray, List.getElem?_cons_succ, List.getElem?_cons_zero]; rfl) (fun K hK => ?_) AllReadyH.nil
                          go_simp
                          go_at_call 26
                          (with_reducible refine (HII.out _).mono ?_)
                          rintro e wi2 ⟨rfl, hbi⟩
                          have QJ := Lib.hid (hT.out.2.drew.chain hbi); clear hbi
                          dsimp only
                          refine hK.out _ _ (⟨HCB.out _ QJ.out, HIC.out _ QJ.out⟩) (fun hHeld => ?_)
                          clear hK K
                          try simp only [Act.put, List.setIfInBounds_toArray, List.set_cons_zero, List.set_cons_succ]
                          refine wpAnyH_take (i := 11) (oi := _) (v := ?v22031) (by simp only [List.getElem?_toArray, List.getElem?_cons_succ, List.getElem?_cons_zero]; rfl) (by kernel_rfl) (by kernel_rfl) (by kernel_rfl) (by exact fun _ _ _ h => h) (Or.inl ⟨by rfl, ?hy22031⟩) (by assumption) ?rest22031
                          case hy22031 => (intro w hSw; (try dsimp only at hSw); go_simp; try with_reducible rfl)
                          try simp only [Act.put, List.setIfInBounds_toArray, List.set_cons_zero, List.set_cons_succ]
                          refine wpAnyH_take (i := 12) (oi := _) (v := ?v22032) (by simp only [List.getElem?_toArray, List.getElem?_cons_succ, List.getElem?_cons_zero]; rfl) (by kernel_rfl) (by kernel_rfl) (by kernel_rfl) (by exact fun _ _ _ h => h) (Or.inl ⟨by rfl, ?hy22032⟩) (by assumption) ?rest22032
                          case hy22032 => (intro w hSw; (try dsimp only at hSw); go_simp; try with_reducible rfl)
                          try simp only [Act.put, List.setIfInBounds_toArray, List.set_cons_zero, List.set_cons_succ]
                          refine wpAnyH_done (by kernel_rfl) ?_ _
                          go_wp2
                          go_roundw
                          case rel => exact ⟨q + 1, _, by omega, by go_num, rfl, Lib.hid ⟨(need_no (b := isW x s) HB0.out).trans (by rw [take_any _ _ _ _ HX2.out]; simp), QJ.out⟩⟩
                          case measure => simp [intOf]; omega
                      -- NEED END
                  · as_aux_lemma =>
                    -- ONLY
                    have x4 : (OP.toList == [110, 101, 101, 100]) = false := by rw [str_is HOP.out]; exact decide_eq_false ho4
                    have ho5 : r.op = opOnly := by
                      have h := (good_len HGR.out).1
                      refine Classical.byContradiction fun hn => h ?_
                      unfold argsN
                      rw [if_neg (by rintro (h | h | h) <;> contradiction), if_neg (by rintro (h | h) <;> contradiction)]
                    have x5 : (OP.toList == [111, 110, 108, 121]) = true := by rw [str_is HOP.out]; exact decide_eq_true ho5
                    have h3 := HJ3.out (.inr ho5)
                    have e3 := E3.out h3
                    obtain ⟨s, hs⟩ : ∃ s, r.args.getD 2 [] = s := ⟨_, rfl⟩
                    obtain ⟨K2, hK2⟩ : ∃ K : ByteArray, K = ⟨s.toArray⟩ := ⟨_, rfl⟩
                    rw [hs] at e3
                    unfold tv at e3
                    rw [← hK2] at e3
                    have hK2s : K2.size = s.length := by rw [hK2]; show s.toArray.size = _; simp
                    have hsl : s.length ≤ 32 := by rw [← hs]; exact HNL.out 2 (by omega)
                    have hm3 : (3 : Int) < m := by omega
                    obtain ⟨J, hJ⟩ : ∃ J, FO.getD V.zero = J := ⟨_, rfl⟩
                    have hvx := HVX.out
                    rw [hJ] at hvx
                    have hJfit : J.kind = 5 → J.fits 7 = true := fun h5 => by
                      cases FO with
                      | none => rw [← hJ] at h5; exact absurd h5 (by decide)
                      | some y =>
                        rw [← hJ]
                        exact field_fits hF HFF.out
                    obtain ⟨_, _, _, _, hje⟩ := hvx.form
                    simp only [List.cons.injEq, Value.int.injEq, Value.string.injEq, Value.slice.injEq, true_and] at hje
                    obtain ⟨hjk, -, hjt, ⟨-, hja, -⟩, -⟩ := hje
                    have hwsz := HS.out.size
                    have hit : ∀ (q : Nat) (x : V), fk = 5 → J.list[q]? = some x → ∃ ib io, fA = some ⟨ib, io, none⟩ ∧ ∃ ik inn it iA ia ic iA' ia' ic', (∀ W, Below wc.heap.size wc W → W.cell? ⟨ib, io + q * 5, none⟩ = some (.int .i64 ik) ∧ W.cell? ⟨ib, io + q * 5 + 1, none⟩ = some (.int .i64 inn) ∧ W.cell? ⟨ib, io + q * 5 + 2, none⟩ = some (.string it) ∧ W.cell? ⟨ib, io + q * 5 + 3, none⟩ = some (.slice iA ia ic) ∧ W.cell? ⟨ib, io + q * 5 + 4, none⟩ = some (.slice iA' ia' ic')) ∧ ik = x.kind ∧ it = ⟨x.text.toArray⟩ ∧ (ik = 4 → ∀ W L N, VIs W L N x [.int .i64 ik, .int .i64 inn, .string it, .slice iA ia ic, .slice iA' ia' ic']) := fun q x h5 hqx => by
                      have hf7 := hJfit (hjk.symm.trans h5)
                      obtain ⟨a1, a2, a3, l, ks⟩ := J
                      obtain ⟨hq, rfl⟩ := List.getElem?_eq_some_iff.1 hqx
                      obtain ⟨-, A0, c0, A0', c0', hcs, -, hitems⟩ := hvx.out
                      simp only [List.cons.injEq, Value.slice.injEq] at hcs
                      obtain ⟨ib, io, e1, -, hib, cs, hfive, hvi⟩ := VIs.item hitems q hq
                      have hxf : V.fits l[q] 6 = true := by
                        rw [fits_mk, Bool.and_eq_true] at hf7
                        exact (fitsAll_iff l 6).1 hf7.2 _ (List.getElem_mem hq)
                      obtain ⟨_, _, _, _, hform⟩ := hvi.form
                      subst hform
                      obtain ⟨c0, c1, c2, c3, c4, hc, m0, m1, m2, m3, m4⟩ := hfive.out
                      simp only [List.cons.injEq, and_true] at hc
                      obtain ⟨rfl, rfl, rfl, rfl, rfl⟩ := hc
                      have hlt : ib < wc.heap.size := Nat.lt_of_lt_of_le hib HS.out.low.size
                      refine ⟨ib, io, hcs.2.2.2.1.1.trans e1, _, _, _, _, _, _, _, _, _, fun W hb => ⟨(hb.cell (p := ⟨ib, io + q * 5, none⟩) hlt).trans m0, (hb.cell (p := ⟨ib, io + q * 5 + 1, none⟩) hlt).trans m1, (hb.cell (p := ⟨ib, io + q * 5 + 2, none⟩) hlt).trans m2, (hb.cell (p := ⟨ib, io + q * 5 + 3, none⟩) hlt).trans m3, (hb.cell (p := ⟨ib, io + q * 5 + 4, none⟩) hlt).trans m4⟩, rfl, rfl, fun h4 W L N => ?_⟩
                      exact text_any hvi h4 hxf W L N
                    obtain ⟨lj, hlj⟩ : ∃ lj, J.list = lj := ⟨_, rfl⟩
                    have hjl : lj.length ≤ 9223372036854775807 := by
                      rw [← hlj]
                      obtain ⟨a1, a2, a3, l, ks⟩ := J
                      exact hvx.out.1.1
                    have hj64 : fk = 5 → lj.length ≤ 64 := fun h5 => by
                      have hf7 := hJfit (hjk.symm.trans h5)
                      rw [← hlj]
                      obtain ⟨a1, a2, a3, l, ks⟩ := J
                      rw [fits_mk, Bool.and_eq_true] at hf7
                      have hb := hf7.1
                      unfold headB at hb
                      simp only [Bool.and_eq_true, decide_eq_true_eq] at hb
                      exact hb.1.1.1.2
                    rw [hlj] at hja hit
                    have hcb : ∀ W, Below wc.heap.size wc W → (W.cell? ⟨p, 0, none⟩ = some (.int .i64 fk) ∧ W.cell? ⟨p, 1, none⟩ = some (.int .i64 fn) ∧ W.cell? ⟨p, 2, none⟩ = some (.string ft) ∧ W.cell? ⟨p, 3, none⟩ = some (.slice fA fa fb) ∧ W.cell? ⟨p, 4, none⟩ = some (.slice fA' fa' fb')) ∧ W.cell? ⟨g2, o2 + 3, none⟩ = some (.string K2) ∧ W.cell? ⟨g2, o2 + 1, none⟩ = some (.string K0) := fun W hb => ⟨(box_of (blk_below HB.out hb)).1, (hb.cell (p := ⟨g2, o2 + 3, none⟩) hg2c).trans e3, (hb.cell (p := ⟨g2, o2 + 1, none⟩) hg2c).trans e1⟩
                    have hstep : ∀ Lq, Lq = onlyL J s → stepR v out r = some (putV out (r.args.getD 0 []) (listV Lq)) := fun Lq hL => by
                      unfold stepR
                      dsimp only
                      rw [if_neg ho1, if_neg ho2, if_neg ho3, if_neg ho4, if_pos ho5, HFF.out, hJ, hs, ← hL]
                    have honly : onlyL J s = if fk = 5 then lj.filter (fun x => decide (x.kind = 4) && decide (x.text.take s.length = s)) else [] := by
                      unfold onlyL
                      rw [hjk, hlj]
                    have HJ64 := Lib.hid hj64; have HIT := Lib.hid hit; have HCB := Lib.hid hcb; have HSTEP := Lib.hid hstep; have HONLY := Lib.hid honly; have HJL := Lib.hid hja; have HK2 := Lib.hid hK2; have HKS := Lib.hid hK2s
                    have bb := HS.out.b2
                    clear hj64 hit hcb hstep honly hvx hK2 hK2s hlj hja hJ hs hjk hjt hJfit e3 h3 bb
                    go_upto_region 31 with fail
                    clear e0 e1 e2
                    go_wp2_with fail
                    go_loopw [18] (fun i W => ∃ (q : Nat) (Lq : List V) (A : Option Addr) (c : Nat) (xs : List Value), q ≤ fa ∧ i = .int .i64 q ∧ Hid (Lq = (if fk = 5 then (lj.take q).filter (fun x => decide (x.kind = 4) && decide (x.text.take s.length = s)) else []) ∧ Lq.length ≤ q ∧ LSt wc.heap.size wc W (.slice A Lq.length c) Lq xs)) (fun i _ => fa - (intOf i).toNat)
                    case atStart => exact ⟨0, [], none, 0, [], Nat.zero_le _, rfl, Lib.hid ⟨by simp, Nat.le_refl _, LSt.start wc⟩⟩
                    case round =>
                      obtain ⟨q, Lq, A, c, xs, hq, rfl, hT⟩ := hrel
                      obtain ⟨⟨b0, b1, b2, b3, b4⟩, b5, b6⟩ := HCB.out _ hT.out.2.2.low
                      by_cases hk5 : fk = 5
                      case neg =>
                        as_aux_lemma =>
                        have q1 : (fk == 5) = false := by simpa using hk5
                        have hL : Lq = onlyL J s := by rw [hT.out.1, HONLY.out, if_neg hk5, if_neg hk5]
                        have HF2 := Lib.hid (HYES.out _ (HSTEP.out Lq hL))
                        have S3 := HS.out.later ((hT.out.2.2.low.mono (Nat.le_refl _)))
                        have hvy : VIs wr (w.heap.size + 3) wr.heap.size (listV Lq) [.int .i64 5, .int .i64 0, .string ⟨#[]⟩, .slice A Lq.length c, .slice none 0 0] := (hT.out.2.2.done (by have := hT.out.2.1; have := HJL.out; omega)).more (by omega) (Nat.le_refl _)
                        have hvyd : VIs wr.drew (w.heap.size + 3) wr.drew.heap.size (listV Lq) [.int .i64 5, .int .i64 0, .string ⟨#[]⟩, .slice A Lq.length c, .slice none 0 0] := hvy.below (Below.refl _ _).drew
                        have HVY := Lib.hid hvyd; have HS3 := Lib.hid S3
                        have bb : wr.heap[w.heap.size + 1 + 1]? = some (.cells #[.int .i64 6, .int .i64 0, .string ⟨#[]⟩, .slice Ad out.list.length cd, .slice Ad' out.keys.length cd'] 25 (0, 0)) := S3.b2
                        obtain ⟨⟨p0, p1, p2, p3, p4⟩, q0, q1', q2', q3', q4'⟩ := box_of bb
                        have BB := Lib.hid bb
                        have hg2w : g2 < wr.heap.size := by have := hT.out.2.2.size; omega
                        have hvar := hT.out.2.2.var
                        have hsk : ∀ W, Below wr.heap.size wr W → (fun W => W.cell? ⟨g2, o2 + 1, none⟩ = some (.string K0) ∧ (W.cell? ⟨wc.heap.size, 0, none⟩ = some (.int .i64 5) ∧ W.cell? ⟨wc.heap.size, 1, none⟩ = some (.int .i64 0) ∧ W.cell? ⟨wc.heap.size, 2, none⟩ = some (.string ⟨#[]⟩) ∧ W.cell? ⟨wc.heap.size, 3, none⟩ = some (.slice A Lq.length c) ∧ W.cell? ⟨wc.heap.size, 4, none⟩ = some (.slice none 0 0))) W := fun W hb => ⟨(hb.cell (p := ⟨g2, o2 + 1, none⟩) hg2w).trans b6, (box_of (blk_below hvar hb)).1⟩
                        have hss : ∀ W, (fun W => W.cell? ⟨g2, o2 + 1, none⟩ = some (.string K0) ∧ (W.cell? ⟨wc.heap.size, 0, none⟩ = some (.int .i64 5) ∧ W.cell? ⟨wc.heap.size, 1, none⟩ = some (.int .i64 0) ∧ W.cell? ⟨wc.heap.size, 2, none⟩ = some (.string ⟨#[]⟩) ∧ W.cell? ⟨wc.heap.size, 3, none⟩ = some (.slice A Lq.length c) ∧ W.cell? ⟨wc.heap.size, 4, none⟩ = some (.slice none 0 0))) W → ∀ c0 c1 c2 c3 c4, (fun W => W.cell? ⟨g2, o2 + 1, none⟩ = some (.string K0) ∧ (W.cell? ⟨wc.heap.size, 0, none⟩ = some (.int .i64 5) ∧ W.cell? ⟨wc.heap.size, 1, none⟩ = some (.int .i64 0) ∧ W.cell? ⟨wc.heap.size, 2, none⟩ = some (.string ⟨#[]⟩) ∧ W.cell? ⟨wc.heap.size, 3, none⟩ = some (.slice A Lq.length c) ∧ W.cell? ⟨wc.heap.size, 4, none⟩ = some (.slice none 0 0))) (set5 W (w.heap.size + 1 + 1) 0 c0 c1 c2 c3 c4) := fun W h c0 c1 c2 c3 c4 => by
                          have t1 := fun o => World.cell?_of_block (w := W) (a := ⟨g2, o, none⟩) (set5_there (b := w.heap.size + 1 + 1) (o := 0) (c0 := c0) (c1 := c1) (c2 := c2) (c3 := c3) (c4 := c4) (show g2 ≠ w.heap.size + 1 + 1 by omega))
                          have t2 := fun o => World.cell?_of_block (w := W) (a := ⟨wc.heap.size, o, none⟩) (set5_there (b := w.heap.size + 1 + 1) (o := 0) (c0 := c0) (c1 := c1) (c2 := c2) (c3 := c3) (c4 := c4) (show wc.heap.size ≠ w.heap.size + 1 + 1 by omega))
                          obtain ⟨h1, h2, h3, h4, h5, h6⟩ := h
                          exact ⟨(t1 _).trans h1, (t2 _).trans h2, (t2 _).trans h3, (t2 _).trans h4, (t2 _).trans h5, (t2 _).trans h6⟩
                        have HSK := Lib.hid hsk; have HSS := Lib.hid hss
                        clear bb hvy hvyd hsk hss S3 hL hvar
                        go_upto_region 37 with fail
                        clear b0 b1 b2 b3 b4 b5 b6
                        refine wp_region_held_drew (S := (fun W => W.cell? ⟨g2, o2 + 1, none⟩ = some (.string K0) ∧ (W.cell? ⟨wc.heap.size, 0, none⟩ = some (.int .i64 5) ∧ W.cell? ⟨wc.heap.size, 1, none⟩ = some (.int .i64 0) ∧ W.cell? ⟨wc.heap.size, 2, none⟩ = some (.string ⟨#[]⟩) ∧ W.cell? ⟨wc.heap.size, 3, none⟩ = some (.slice A Lq.length c) ∧ W.cell? ⟨wc.heap.size, 4, none⟩ = some (.slice none 0 0)))) (by kernel_rfl) (HSK.out _ (Below.refl _ _).drew) (fun hHeld => ?_)
                        refine wpAnyH_take (i := 1) (oi := _) (v := ?v30001) (by simp only [List.getElem?_toArray, List.getElem?_cons_succ, List.getElem?_cons_zero]; rfl) (by kernel_rfl) (by kernel_rfl) (by kernel_rfl) (by exact fun _ _ _ h => h) (Or.inl ⟨by rfl, ?hy30001⟩) (by assumption) ?rest30001
                        case hy30001 => (intro w hSw; (try dsimp only at hSw); go_simp; try with_reducible rfl)
                        try simp only [Act.put, List.setIfInBounds_toArray, List.set_cons_zero, List.set_cons_succ]
                        refine wpAnyH_take (i := 2) (oi := _) (v := ?v30002) (by simp only [List.getElem?_toArray, List.getElem?_cons_succ, List.getElem?_cons_zero]; rfl) (by kernel_rfl) (by kernel_rfl) (by kernel_rfl) (by exact fun _ _ _ h => h) (Or.inl ⟨by rfl, ?hy30002⟩) (by assumption) ?rest30002
                        case hy30002 => (intro w hSw; (try dsimp only at hSw); go_simp; try with_reducible rfl)
                        try simp only [Act.put, List.setIfInBounds_toArray, List.set_cons_zero, List.set_cons_succ]
                        refine wpAnyH_take (i := 3) (oi := _) (v := ?v30003) (by simp only [List.getElem?_toArray, List.getElem?_cons_succ, List.getElem?_cons_zero]; rfl) (by kernel_rfl) (by kernel_rfl) (by kernel_rfl) (by exact fun _ _ _ h => h) (Or.inl ⟨by rfl, ?hy30003⟩) (by assumption) ?rest30003
                        case hy30003 => (intro w hSw; (try dsimp only at hSw); go_simp; try with_reducible rfl)
                        try simp only [Act.put, List.setIfInBounds_toArray, List.set_cons_zero, List.set_cons_succ]
                        refine wpAnyH_take (i := 4) (oi := _) (v := ?v30004) (by simp only [List.getElem?_toArray, List.getElem?_cons_succ, List.getElem?_cons_zero]; rfl) (by kernel_rfl) (by kernel_rfl) (by kernel_rfl) (by exact fun _ _ _ h => h) (Or.inl ⟨by rfl, ?hy30004⟩) (by assumption) ?rest30004
                        case hy30004 => (intro w hSw; (try dsimp only at hSw); go_simp; try with_reducible rfl)
                        try simp only [Act.put, List.setIfInBounds_toArray, List.set_cons_zero, List.set_cons_succ]
                        refine wpAnyH_ready (rs := [0]) (by kernel_rfl) (by simp) ?_
                        refine AllReadyH.cons (o := _) (by simp only [List.getElem?_toArray, List.getElem?_cons_succ, List.getElem?_cons_zero]; rfl) (fun K hK => ?_) AllReadyH.nil
                        go_simp
                        refine hK.out _ _ (HSK.out _ (Below.refl _ _).drew) (fun hHeld => ?_)
                        clear hK K
                        try simp only [Act.put, List.setIfInBounds_toArray, List.set_cons_zero, List.set_cons_succ]
                        refine wpAnyH_ready (rs := [5]) (by kernel_rfl) (by simp) ?_
                        refine AllReadyH.cons (o := _) (by simp only [List.getElem?_toArray, List.getElem?_cons_succ, List.getElem?_cons_zero]; rfl) (fun K hK => ?_) AllReadyH.nil
                        go_simp
                        go_at_call 16
                        (with_reducible refine (HPUT.out _ (HS3.out.later (Below.refl _ _).drew) (listV Lq) _ _ _ _ _ (.inr HVY.out)).mono ?_)
                        rintro e w9 ⟨C, nC, dC, C', nC', dC', rfl, ho, hb9⟩
                        have hb9' := below_drew2 _ _ hb9
                        have bb1 := blk_below BB.out hb9'
                        obtain ⟨⟨v0, v1, v2, v3, v4⟩, y0, y1, y2, y3, y4⟩ := box_of bb1
                        have HO := Lib.hid ho; have HB1 := Lib.hid hb9'
                        clear bb1 ho hb9 hb9'
                        dsimp only
                        refine hK.out _ _ (HSK.out w9 HB1.out) (fun hHeld => ?_)
                        clear hK K
                        try simp only [Act.put, List.setIfInBounds_toArray, List.set_cons_zero, List.set_cons_succ]
                        refine wpAnyH_ready (rs := [6]) (by kernel_rfl) (by simp) ?_
                        refine AllReadyH.cons (o := _) (by simp only [List.getElem?_toArray, List.getElem?_cons_succ, List.getElem?_cons_zero]; rfl) (fun K hK => ?_) AllReadyH.nil
                        go_simp
                        refine hK.out _ _ (HSS.out _ (HSK.out w9 HB1.out) _ _ _ _ _) (fun hHeld => ?_)
                        clear hK K
                        try simp only [Act.put, List.setIfInBounds_toArray, List.set_cons_zero, List.set_cons_succ]
                        refine wpAnyH_done (by kernel_rfl) ?_ _
                        clear p0 p1 p2 p3 p4 q0 q1' q2' q3' q4' v0 v1 v2 v3 v4 y0 y1 y2 y3 y4
                        go_wp2_with fail
                        refine ⟨⟨k + 1, _, _, by omega, by go_num, HF2.out, (HS3.out.later HB1.out).store HO.out⟩, ?_⟩
                        simp [intOf]; omega
                      subst hk5
                      by_cases hlt : q < fa
                      case neg =>
                        as_aux_lemma =>
                        have q2 : decide ((q : Int) < fa) = false := by simp; omega
                        have q3 : decide (q < fa) = false := by simp; omega
                        have hL : Lq = onlyL J s := by rw [hT.out.1, HONLY.out, if_pos rfl, if_pos rfl, List.take_of_length_le (by have := HJL.out; omega)]
                        have HF2 := Lib.hid (HYES.out _ (HSTEP.out Lq hL))
                        have S3 := HS.out.later ((hT.out.2.2.low.mono (Nat.le_refl _)))
                        have hvy : VIs wr (w.heap.size + 3) wr.heap.size (listV Lq) [.int .i64 5, .int .i64 0, .string ⟨#[]⟩, .slice A Lq.length c, .slice none 0 0] := (hT.out.2.2.done (by have := hT.out.2.1; have := HJL.out; omega)).more (by omega) (Nat.le_refl _)
                        have hvyd : VIs wr.drew (w.heap.size + 3) wr.drew.heap.size (listV Lq) [.int .i64 5, .int .i64 0, .string ⟨#[]⟩, .slice A Lq.length c, .slice none 0 0] := hvy.below (Below.refl _ _).drew
                        have HVY := Lib.hid hvyd; have HS3 := Lib.hid S3
                        have bb : wr.heap[w.heap.size + 1 + 1]? = some (.cells #[.int .i64 6, .int .i64 0, .string ⟨#[]⟩, .slice Ad out.list.length cd, .slice Ad' out.keys.length cd'] 25 (0, 0)) := S3.b2
                        obtain ⟨⟨p0, p1, p2, p3, p4⟩, q0, q1', q2', q3', q4'⟩ := box_of bb
                        have BB := Lib.hid bb
                        have hg2w : g2 < wr.heap.size := by have := hT.out.2.2.size; omega
                        have hvar := hT.out.2.2.var
                        have hsk : ∀ W, Below wr.heap.size wr W → (fun W => W.cell? ⟨g2, o2 + 1, none⟩ = some (.string K0) ∧ (W.cell? ⟨wc.heap.size, 0, none⟩ = some (.int .i64 5) ∧ W.cell? ⟨wc.heap.size, 1, none⟩ = some (.int .i64 0) ∧ W.cell? ⟨wc.heap.size, 2, none⟩ = some (.string ⟨#[]⟩) ∧ W.cell? ⟨wc.heap.size, 3, none⟩ = some (.slice A Lq.length c) ∧ W.cell? ⟨wc.heap.size, 4, none⟩ = some (.slice none 0 0))) W := fun W hb => ⟨(hb.cell (p := ⟨g2, o2 + 1, none⟩) hg2w).trans b6, (box_of (blk_below hvar hb)).1⟩
                        have hss : ∀ W, (fun W => W.cell? ⟨g2, o2 + 1, none⟩ = some (.string K0) ∧ (W.cell? ⟨wc.heap.size, 0, none⟩ = some (.int .i64 5) ∧ W.cell? ⟨wc.heap.size, 1, none⟩ = some (.int .i64 0) ∧ W.cell? ⟨wc.heap.size, 2, none⟩ = some (.string ⟨#[]⟩) ∧ W.cell? ⟨wc.heap.size, 3, none⟩ = some (.slice A Lq.length c) ∧ W.cell? ⟨wc.heap.size, 4, none⟩ = some (.slice none 0 0))) W → ∀ c0 c1 c2 c3 c4, (fun W => W.cell? ⟨g2, o2 + 1, none⟩ = some (.string K0) ∧ (W.cell? ⟨wc.heap.size, 0, none⟩ = some (.int .i64 5) ∧ W.cell? ⟨wc.heap.size, 1, none⟩ = some (.int .i64 0) ∧ W.cell? ⟨wc.heap.size, 2, none⟩ = some (.string ⟨#[]⟩) ∧ W.cell? ⟨wc.heap.size, 3, none⟩ = some (.slice A Lq.length c) ∧ W.cell? ⟨wc.heap.size, 4, none⟩ = some (.slice none 0 0))) (set5 W (w.heap.size + 1 + 1) 0 c0 c1 c2 c3 c4) := fun W h c0 c1 c2 c3 c4 => by
                          have t1 := fun o => World.cell?_of_block (w := W) (a := ⟨g2, o, none⟩) (set5_there (b := w.heap.size + 1 + 1) (o := 0) (c0 := c0) (c1 := c1) (c2 := c2) (c3 := c3) (c4 := c4) (show g2 ≠ w.heap.size + 1 + 1 by omega))
                          have t2 := fun o => World.cell?_of_block (w := W) (a := ⟨wc.heap.size, o, none⟩) (set5_there (b := w.heap.size + 1 + 1) (o := 0) (c0 := c0) (c1 := c1) (c2 := c2) (c3 := c3) (c4 := c4) (show wc.heap.size ≠ w.heap.size + 1 + 1 by omega))
                          obtain ⟨h1, h2, h3, h4, h5, h6⟩ := h
                          exact ⟨(t1 _).trans h1, (t2 _).trans h2, (t2 _).trans h3, (t2 _).trans h4, (t2 _).trans h5, (t2 _).trans h6⟩
                        have HSK := Lib.hid hsk; have HSS := Lib.hid hss
                        clear bb hvy hvyd hsk hss S3 hL hvar
                        go_upto_region 37 with fail
                        clear b0 b1 b2 b3 b4 b5 b6
                        refine wp_region_held_drew (S := (fun W => W.cell? ⟨g2, o2 + 1, none⟩ = some (.string K0) ∧ (W.cell? ⟨wc.heap.size, 0, none⟩ = some (.int .i64 5) ∧ W.cell? ⟨wc.heap.size, 1, none⟩ = some (.int .i64 0) ∧ W.cell? ⟨wc.heap.size, 2, none⟩ = some (.string ⟨#[]⟩) ∧ W.cell? ⟨wc.heap.size, 3, none⟩ = some (.slice A Lq.length c) ∧ W.cell? ⟨wc.heap.size, 4, none⟩ = some (.slice none 0 0)))) (by kernel_rfl) (HSK.out _ (Below.refl _ _).drew) (fun hHeld => ?_)
                        refine wpAnyH_take (i := 1) (oi := _) (v := ?v30008) (by simp only [List.getElem?_toArray, List.getElem?_cons_succ, List.getElem?_cons_zero]; rfl) (by kernel_rfl) (by kernel_rfl) (by kernel_rfl) (by exact fun _ _ _ h => h) (Or.inl ⟨by rfl, ?hy30008⟩) (by assumption) ?rest30008
                        case hy30008 => (intro w hSw; (try dsimp only at hSw); go_simp; try with_reducible rfl)
                        try simp only [Act.put, List.setIfInBounds_toArray, List.set_cons_zero, List.set_cons_succ]
                        refine wpAnyH_take (i := 2) (oi := _) (v := ?v30009) (by simp only [List.getElem?_toArray, List.getElem?_cons_succ, List.getElem?_cons_zero]; rfl) (by kernel_rfl) (by kernel_rfl) (by kernel_rfl) (by exact fun _ _ _ h => h) (Or.inl ⟨by rfl, ?hy30009⟩) (by assumption) ?rest30009
                        case hy30009 => (intro w hSw; (try dsimp only at hSw); go_simp; try with_reducible rfl)
                        try simp only [Act.put, List.setIfInBounds_toArray, List.set_cons_zero, List.set_cons_succ]
                        refine wpAnyH_take (i := 3) (oi := _) (v := ?v30010) (by simp only [List.getElem?_toArray, List.getElem?_cons_succ, List.getElem?_cons_zero]; rfl) (by kernel_rfl) (by kernel_rfl) (by kernel_rfl) (by exact fun _ _ _ h => h) (Or.inl ⟨by rfl, ?hy30010⟩) (by assumption) ?rest30010
                        case hy30010 => (intro w hSw; (try dsimp only at hSw); go_simp; try with_reducible rfl)
                        try simp only [Act.put, List.setIfInBounds_toArray, List.set_cons_zero, List.set_cons_succ]
                        refine wpAnyH_take (i := 4) (oi := _) (v := ?v30011) (by simp only [List.getElem?_toArray, List.getElem?_cons_succ, List.getElem?_cons_zero]; rfl) (by kernel_rfl) (by kernel_rfl) (by kernel_rfl) (by exact fun _ _ _ h => h) (Or.inl ⟨by rfl, ?hy30011⟩) (by assumption) ?rest30011
                        case hy30011 => (intro w hSw; (try dsimp only at hSw); go_simp; try with_reducible rfl)
                        try simp only [Act.put, List.setIfInBounds_toArray, List.set_cons_zero, List.set_cons_succ]
                        refine wpAnyH_ready (rs := [0]) (by kernel_rfl) (by simp) ?_
                        refine AllReadyH.cons (o := _) (by simp only [List.getElem?_toArray, List.getElem?_cons_succ, List.getElem?_cons_zero]; rfl) (fun K hK => ?_) AllReadyH.nil
                        go_simp
                        refine hK.out _ _ (HSK.out _ (Below.refl _ _).drew) (fun hHeld => ?_)
                        clear hK K
                        try simp only [Act.put, List.setIfInBounds_toArray, List.set_cons_zero, List.set_cons_succ]
                        refine wpAnyH_ready (rs := [5]) (by kernel_rfl) (by simp) ?_
                        refine AllReadyH.cons (o := _) (by simp only [List.getElem?_toArray, List.getElem?_cons_succ, List.getElem?_cons_zero]; rfl) (fun K hK => ?_) AllReadyH.nil
                        go_simp
                        go_at_call 16
                        (with_reducible refine (HPUT.out _ (HS3.out.later (Below.refl _ _).drew) (listV Lq) _ _ _ _ _ (.inr HVY.out)).mono ?_)
                        rintro e w9 ⟨C, nC, dC, C', nC', dC', rfl, ho, hb9⟩
                        have hb9' := below_drew2 _ _ hb9
                        have bb1 := blk_below BB.out hb9'
                        obtain ⟨⟨v0, v1, v2, v3, v4⟩, y0, y1, y2, y3, y4⟩ := box_of bb1
                        have HO := Lib.hid ho; have HB1 := Lib.hid hb9'
                        clear bb1 ho hb9 hb9'
                        dsimp only
                        refine hK.out _ _ (HSK.out w9 HB1.out) (fun hHeld => ?_)
                        clear hK K
                        try simp only [Act.put, List.setIfInBounds_toArray, List.set_cons_zero, List.set_cons_succ]
                        refine wpAnyH_ready (rs := [6]) (by kernel_rfl) (by simp) ?_
                        refine AllReadyH.cons (o := _) (by simp only [List.getElem?_toArray, List.getElem?_cons_succ, List.getElem?_cons_zero]; rfl) (fun K hK => ?_) AllReadyH.nil
                        go_simp
                        refine hK.out _ _ (HSS.out _ (HSK.out w9 HB1.out) _ _ _ _ _) (fun hHeld => ?_)
                        clear hK K
                        try simp only [Act.put, List.setIfInBounds_toArray, List.set_cons_zero, List.set_cons_succ]
                        refine wpAnyH_done (by kernel_rfl) ?_ _
                        clear p0 p1 p2 p3 p4 q0 q1' q2' q3' q4' v0 v1 v2 v3 v4 y0 y1 y2 y3 y4
                        go_wp2_with fail
                        refine ⟨⟨k + 1, _, _, by omega, by go_num, HF2.out, (HS3.out.later HB1.out).store HO.out⟩, ?_⟩
                        simp [intOf]; omega
                      as_aux_lemma =>
                      have q2 : decide ((q : Int) < fa) = true := by simp; omega
                      have q3 : decide (q < fa) = true := by simp; omega
                      have hql : q < lj.length := by have := HJL.out; omega
                      obtain ⟨x, hx⟩ : ∃ x, lj[q]? = some x := ⟨_, List.getElem?_eq_getElem hql⟩
                      obtain ⟨ib, io, rfl, ik, inn, it, iA, ia, ic, iA', ia', ic', hic, hik, hitt, hvs⟩ := HIT.out q x rfl hx
                      obtain ⟨i0, i1, i2, i3, i4⟩ := hic _ hT.out.2.2.low
                      have gq1 : (0 : Int) ≤ q := by omega
                      have gq2 : (q : Int) < fa := by omega
                      have hkeep : (decide (x.kind = 4) && decide (x.text.take s.length = s)) = false → Lq = (if (5 : Int) = 5 then (lj.take (q + 1)).filter (fun x => decide (x.kind = 4) && decide (x.text.take s.length = s)) else []) := fun h => by
                        rw [if_pos rfl, List.take_add_one, hx, List.filter_append, hT.out.1, if_pos rfl]
                        simp [h]
                      have hmore : (decide (x.kind = 4) && decide (x.text.take s.length = s)) = true → Lq ++ [x] = (if (5 : Int) = 5 then (lj.take (q + 1)).filter (fun x => decide (x.kind = 4) && decide (x.text.take s.length = s)) else []) := fun h => by
                        rw [if_pos rfl, List.take_add_one, hx, List.filter_append, hT.out.1, if_pos rfl]
                        simp [h]
                      have hzt : it.size = x.text.length := by rw [hitt]; show x.text.toArray.size = _; simp
                      have hext : s.length ≤ x.text.length → ((it.extract 0 K2.size).toList == K2.toList) = decide (x.text.take s.length = s) := fun hl => by
                        rw [HKS.out, ByteArray.toList_eq, ByteArray.toList_eq, HK2.out, hitt, ByteArray.data_extract]
                        show ((x.text.toArray.extract 0 s.length).toList == s) = _
                        have e : (x.text.toArray.extract 0 s.length).toList = x.text.take s.length := by simp
                        rw [e]
                        by_cases h : x.text.take s.length = s <;> simp [h]
                      have hshort : x.text.length < s.length → decide (x.text.take s.length = s) = false := fun hl => decide_eq_false fun e => by
                        have := congrArg List.length e
                        rw [List.length_take] at this
                        omega
                      obtain ⟨WX, hWX⟩ : ∃ V, wr.alloc (.cells #[.int .i64 ik, .int .i64 inn, .string it, .slice iA ia ic, .slice iA' ia' ic'] 25) = V := ⟨_, rfl⟩
                      have kx : WX.heap[wr.heap.size]? = some (.cells #[.int .i64 ik, .int .i64 inn, .string it, .slice iA ia ic, .slice iA' ia' ic'] 25 (0, 0)) := by rw [← hWX]; exact heap_alloc_last wr _
                      have hbx : Below wr.heap.size wr WX := by rw [← hWX]; exact (Below.refl _ _).alloc (Nat.le_refl _) _
                      have tx := hT.out.2.2.later hbx
                      have KX := Lib.hid kx; have TX := Lib.hid tx; have HKEEP := Lib.hid hkeep; have HMORE := Lib.hid hmore; have HVS := Lib.hid hvs; have HWX := Lib.hid hWX; have HIK := Lib.hid hik; have HEXT := Lib.hid hext; have HSHORT := Lib.hid hshort
                      have HLQ := Lib.hid hT.out.2.1; have HZT := Lib.hid hzt
                      clear hkeep hmore hvs hik hitt hWX kx hbx tx hx hic hext hshort hzt
                      go_upto_region 35 with fail
                      rw [HWX.out]
                      clear i0 i1 i2 i3 i4 b0 b1 b2 b3 b4 b5 b6
                      obtain ⟨-, c5, -⟩ := HCB.out _ TX.out.low
                      obtain ⟨⟨y0, y1, y2, y3, y4⟩, -⟩ := box_of KX.out
                      by_cases h4 : ik = 4
                      case neg => as_aux_lemma =>
                        have q4 : (ik == 4) = false := by simpa using h4
                        have HK := Lib.hid (HKEEP.out (by rw [← HIK.out, decide_eq_false h4]; rfl))
                        clear h4
                        refine wp_region_held_drew (S := (fun W => (W.cell? ⟨wr.heap.size, 0, none⟩ = some (.int .i64 ik) ∧ W.cell? ⟨wr.heap.size, 1, none⟩ = some (.int .i64 inn) ∧ W.cell? ⟨wr.heap.size, 2, none⟩ = some (.string it) ∧ W.cell? ⟨wr.heap.size, 3, none⟩ = some (.slice iA ia ic) ∧ W.cell? ⟨wr.heap.size, 4, none⟩ = some (.slice iA' ia' ic')) ∧ W.cell? ⟨g2, o2 + 3, none⟩ = some (.string K2))) (by kernel_rfl) (⟨⟨y0, y1, y2, y3, y4⟩, c5⟩) (fun hHeld => ?_)
                        refine wpAnyH_take (i := 0) (oi := _) (v := ?v30015) (by simp only [List.getElem?_toArray, List.getElem?_cons_succ, List.getElem?_cons_zero]; rfl) (by kernel_rfl) (by kernel_rfl) (by kernel_rfl) (by exact fun _ _ _ h => h) (Or.inl ⟨by rfl, ?hy30015⟩) (by assumption) ?rest30015
                        case hy30015 => (intro w hSw; (try dsimp only at hSw); go_simp; try with_reducible rfl)
                        try simp only [Act.put, List.setIfInBounds_toArray, List.set_cons_zero, List.set_cons_succ]
                        refine wpAnyH_take (i := 1) (oi := _) (v := ?v30016) (by simp only [List.getElem?_toArray, List.getElem?_cons_succ, List.getElem?_cons_zero]; rfl) (by kernel_rfl) (by kernel_rfl) (by kernel_rfl) (by exact fun _ _ _ h => h) (Or.inl ⟨by rfl, ?hy30016⟩) (by assumption) ?rest30016
                        case hy30016 => (intro w hSw; (try dsimp only at hSw); go_simp; try with_reducible rfl)
                        try simp only [Act.put, List.setIfInBounds_toArray, List.set_cons_zero, List.set_cons_succ]
                        refine wpAnyH_take (i := 2) (oi := _) (v := ?v30017) (by simp only [List.getElem?_toArray, List.getElem?_cons_succ, List.getElem?_cons_zero]; rfl) (by kernel_rfl) (by kernel_rfl) (by kernel_rfl) (by exact fun _ _ _ h => h) (Or.inl ⟨by rfl, ?hy30017⟩) (by assumption) ?rest30017
                        case hy30017 => (intro w hSw; (try dsimp only at hSw); go_simp; try with_reducible rfl)
                        try simp only [Act.put, List.setIfInBounds_toArray, List.set_cons_zero, List.set_cons_succ]
                        refine wpAnyH_take (i := 3) (oi := _) (v := ?v30018) (by simp only [List.getElem?_toArray, List.getElem?_cons_succ, List.getElem?_cons_zero]; rfl) (by kernel_rfl) (by kernel_rfl) (by kernel_rfl) (by exact fun _ _ _ h => h) (Or.inl ⟨by rfl, ?hy30018⟩) (by assumption) ?rest30018
                        case hy30018 => (intro w hSw; (try dsimp only at hSw); go_simp; try with_reducible rfl)
                        try simp only [Act.put, List.setIfInBounds_toArray, List.set_cons_zero, List.set_cons_succ]
                        refine wpAnyH_take (i := 4) (oi := _) (v := undef) (by simp only [List.getElem?_toArray, List.getElem?_cons_succ, List.getElem?_cons_zero]; rfl) (by kernel_rfl) (by kernel_rfl) (by kernel_rfl) (by exact fun _ _ _ h => h) (Or.inr ⟨by rfl, rfl⟩) (by assumption) ?rest30019
                        try simp only [Act.put, List.setIfInBounds_toArray, List.set_cons_zero, List.set_cons_succ]
                        refine wpAnyH_take (i := 5) (oi := _) (v := undef) (by simp only [List.getElem?_toArray, List.getElem?_cons_succ, List.getElem?_cons_zero]; rfl) (by kernel_rfl) (by kernel_rfl) (by kernel_rfl) (by exact fun _ _ _ h => h) (Or.inr ⟨by rfl, rfl⟩) (by assumption) ?rest30020
                        try simp only [Act.put, List.setIfInBounds_toArray, List.set_cons_zero, List.set_cons_succ]
                        refine wpAnyH_take (i := 6) (oi := _) (v := undef) (by simp only [List.getElem?_toArray, List.getElem?_cons_succ, List.getElem?_cons_zero]; rfl) (by kernel_rfl) (by kernel_rfl) (by kernel_rfl) (by exact fun _ _ _ h => h) (Or.inr ⟨by rfl, rfl⟩) (by assumption) ?rest30021
                        try simp only [Act.put, List.setIfInBounds_toArray, List.set_cons_zero, List.set_cons_succ]
                        refine wpAnyH_take (i := 7) (oi := _) (v := undef) (by simp only [List.getElem?_toArray, List.getElem?_cons_succ, List.getElem?_cons_zero]; rfl) (by kernel_rfl) (by kernel_rfl) (by kernel_rfl) (by exact fun _ _ _ h => h) (Or.inr ⟨by rfl, rfl⟩) (by assumption) ?rest30022
                        try simp only [Act.put, List.setIfInBounds_toArray, List.set_cons_zero, List.set_cons_succ]
                        refine wpAnyH_take (i := 8) (oi := _) (v := undef) (by simp only [List.getElem?_toArray, List.getElem?_cons_succ, List.getElem?_cons_zero]; rfl) (by kernel_rfl) (by kernel_rfl) (by kernel_rfl) (by exact fun _ _ _ h => h) (Or.inr ⟨by rfl, rfl⟩) (by assumption) ?rest30023
                        try simp only [Act.put, List.setIfInBounds_toArray, List.set_cons_zero, List.set_cons_succ]
                        refine wpAnyH_take (i := 9) (oi := _) (v := undef) (by simp only [List.getElem?_toArray, List.getElem?_cons_succ, List.getElem?_cons_zero]; rfl) (by kernel_rfl) (by kernel_rfl) (by kernel_rfl) (by exact fun _ _ _ h => h) (Or.inr ⟨by rfl, rfl⟩) (by assumption) ?rest30024
                        try simp only [Act.put, List.setIfInBounds_toArray, List.set_cons_zero, List.set_cons_succ]
                        refine wpAnyH_take (i := 10) (oi := _) (v := undef) (by simp only [List.getElem?_toArray, List.getElem?_cons_succ, List.getElem?_cons_zero]; rfl) (by kernel_rfl) (by kernel_rfl) (by kernel_rfl) (by exact fun _ _ _ h => h) (Or.inr ⟨by rfl, rfl⟩) (by assumption) ?rest30025
                        try simp only [Act.put, List.setIfInBounds_toArray, List.set_cons_zero, List.set_cons_succ]
                        refine wpAnyH_take (i := 11) (oi := _) (v := undef) (by simp only [List.getElem?_toArray, List.getElem?_cons_succ, List.getElem?_cons_zero]; rfl) (by kernel_rfl) (by kernel_rfl) (by kernel_rfl) (by exact fun _ _ _ h => h) (Or.inr ⟨by rfl, rfl⟩) (by assumption) ?rest30026
                        try simp only [Act.put, List.setIfInBounds_toArray, List.set_cons_zero, List.set_cons_succ]
                        refine wpAnyH_take (i := 12) (oi := _) (v := ?v30027) (by simp only [List.getElem?_toArray, List.getElem?_cons_succ, List.getElem?_cons_zero]; rfl) (by kernel_rfl) (by kernel_rfl) (by kernel_rfl) (by exact fun _ _ _ h => h) (Or.inl ⟨by rfl, ?hy30027⟩) (by assumption) ?rest30027
                        case hy30027 => (intro w hSw; (try dsimp only at hSw); go_simp; try with_reducible rfl)
                        try simp only [Act.put, List.setIfInBounds_toArray, List.set_cons_zero, List.set_cons_succ]
                        refine wpAnyH_take (i := 13) (oi := _) (v := ?v30028) (by simp only [List.getElem?_toArray, List.getElem?_cons_succ, List.getElem?_cons_zero]; rfl) (by kernel_rfl) (by kernel_rfl) (by kernel_rfl) (by exact fun _ _ _ h => h) (Or.inl ⟨by rfl, ?hy30028⟩) (by assumption) ?rest30028
                        case hy30028 => (intro w hSw; (try dsimp only at hSw); go_simp; try with_reducible rfl)
                        try simp only [Act.put, List.setIfInBounds_toArray, List.set_cons_zero, List.set_cons_succ]
                        refine wpAnyH_take (i := 14) (oi := _) (v := undef) (by simp only [List.getElem?_toArray, List.getElem?_cons_succ, List.getElem?_cons_zero]; rfl) (by kernel_rfl) (by kernel_rfl) (by kernel_rfl) (by exact fun _ _ _ h => h) (Or.inr ⟨by rfl, rfl⟩) (by assumption) ?rest30029
                        try simp only [Act.put, List.setIfInBounds_toArray, List.set_cons_zero, List.set_cons_succ]
                        refine wpAnyH_take (i := 15) (oi := _) (v := undef) (by simp only [List.getElem?_toArray, List.getElem?_cons_succ, List.getElem?_cons_zero]; rfl) (by kernel_rfl) (by kernel_rfl) (by kernel_rfl) (by exact fun _ _ _ h => h) (Or.inr ⟨by rfl, rfl⟩) (by assumption) ?rest30030
                        try simp only [Act.put, List.setIfInBounds_toArray, List.set_cons_zero, List.set_cons_succ]
                        refine wpAnyH_take (i := 16) (oi := _) (v := undef) (by simp only [List.getElem?_toArray, List.getElem?_cons_succ, List.getElem?_cons_zero]; rfl) (by kernel_rfl) (by kernel_rfl) (by kernel_rfl) (by exact fun _ _ _ h => h) (Or.inr ⟨by rfl, rfl⟩) (by assumption) ?rest30031
                        try simp only [Act.put, List.setIfInBounds_toArray, List.set_cons_zero, List.set_cons_succ]
                        refine wpAnyH_take (i := 17) (oi := _) (v := undef) (by simp only [List.getElem?_toArray, List.getElem?_cons_succ, List.getElem?_cons_zero]; rfl) (by kernel_rfl) (by kernel_rfl) (by kernel_rfl) (by exact fun _ _ _ h => h) (Or.inr ⟨by rfl, rfl⟩) (by assumption) ?rest30032
                        try simp only [Act.put, List.setIfInBounds_toArray, List.set_cons_zero, List.set_cons_succ]
                        refine wpAnyH_take (i := 18) (oi := _) (v := undef) (by simp only [List.getElem?_toArray, List.getElem?_cons_succ, List.getElem?_cons_zero]; rfl) (by kernel_rfl) (by kernel_rfl) (by kernel_rfl) (by exact fun _ _ _ h => h) (Or.inr ⟨by rfl, rfl⟩) (by assumption) ?rest30033
                        try simp only [Act.put, List.setIfInBounds_toArray, List.set_cons_zero, List.set_cons_succ]
                        refine wpAnyH_take (i := 19) (oi := _) (v := undef) (by simp only [List.getElem?_toArray, List.getElem?_cons_succ, List.getElem?_cons_zero]; rfl) (by kernel_rfl) (by kernel_rfl) (by kernel_rfl) (by exact fun _ _ _ h => h) (Or.inr ⟨by rfl, rfl⟩) (by assumption) ?rest30034
                        try simp only [Act.put, List.setIfInBounds_toArray, List.set_cons_zero, List.set_cons_succ]
                        refine wpAnyH_take (i := 20) (oi := _) (v := undef) (by simp only [List.getElem?_toArray, List.getElem?_cons_succ, List.getElem?_cons_zero]; rfl) (by kernel_rfl) (by kernel_rfl) (by kernel_rfl) (by exact fun _ _ _ h => h) (Or.inr ⟨by rfl, rfl⟩) (by assumption) ?rest30035
                        try simp only [Act.put, List.setIfInBounds_toArray, List.set_cons_zero, List.set_cons_succ]
                        refine wpAnyH_take (i := 21) (oi := _) (v := undef) (by simp only [List.getElem?_toArray, List.getElem?_cons_succ, List.getElem?_cons_zero]; rfl) (by kernel_rfl) (by kernel_rfl) (by kernel_rfl) (by exact fun _ _ _ h => h) (Or.inr ⟨by rfl, rfl⟩) (by assumption) ?rest30036
                        try simp only [Act.put, List.setIfInBounds_toArray, List.set_cons_zero, List.set_cons_succ]
                        refine wpAnyH_take (i := 22) (oi := _) (v := undef) (by simp only [List.getElem?_toArray, List.getElem?_cons_succ, List.getElem?_cons_zero]; rfl) (by kernel_rfl) (by kernel_rfl) (by kernel_rfl) (by exact fun _ _ _ h => h) (Or.inr ⟨by rfl, rfl⟩) (by assumption) ?rest30037
                        try simp only [Act.put, List.setIfInBounds_toArray, List.set_cons_zero, List.set_cons_succ]
                        refine wpAnyH_take (i := 23) (oi := _) (v := undef) (by simp only [List.getElem?_toArray, List.getElem?_cons_succ, List.getElem?_cons_zero]; rfl) (by kernel_rfl) (by kernel_rfl) (by kernel_rfl) (by exact fun _ _ _ h => h) (Or.inr ⟨by rfl, rfl⟩) (by assumption) ?rest30038
                        try simp only [Act.put, List.setIfInBounds_toArray, List.set_cons_zero, List.set_cons_succ]
                        refine wpAnyH_take (i := 24) (oi := _) (v := undef) (by simp only [List.getElem?_toArray, List.getElem?_cons_succ, List.getElem?_cons_zero]; rfl) (by kernel_rfl) (by kernel_rfl) (by kernel_rfl) (by exact fun _ _ _ h => h) (Or.inr ⟨by rfl, rfl⟩) (by assumption) ?rest30039
                        try simp only [Act.put, List.setIfInBounds_toArray, List.set_cons_zero, List.set_cons_succ]
                        refine wpAnyH_take (i := 25) (oi := _) (v := ?v30040) (by simp only [List.getElem?_toArray, List.getElem?_cons_succ, List.getElem?_cons_zero]; rfl) (by kernel_rfl) (by kernel_rfl) (by kernel_rfl) (by exact fun _ _ _ h => h) (Or.inl ⟨by rfl, ?hy30040⟩) (by assumption) ?rest30040
                        case hy30040 => (intro w hSw; (try dsimp only at hSw); go_simp; try with_reducible rfl)
                        try simp only [Act.put, List.setIfInBounds_toArray, List.set_cons_zero, List.set_cons_succ]
                        refine wpAnyH_done (by kernel_rfl) ?_ _
                        go_wp2_with fail
                        go_roundw
                        case rel => exact ⟨q + 1, Lq, A, c, xs, by omega, by go_num, Lib.hid ⟨HK.out, by have := HLQ.out; omega, TX.out.later (Below.refl _ _).drew⟩⟩
                        case measure => simp [intOf]; omega
                      subst h4
                      by_cases h5 : s.length ≤ x.text.length
                      case neg => as_aux_lemma =>
                        have q5 : decide ((K2.size : Int) ≤ it.size) = false := by have := HKS.out; have := HZT.out; simp; omega
                        have q6 : decide (K2.size ≤ it.size) = false := by have := HKS.out; have := HZT.out; simp; omega
                        have HK := Lib.hid (HKEEP.out (by rw [HSHORT.out (by omega), Bool.and_false]))
                        clear h5
                        refine wp_region_held_drew (S := (fun W => (W.cell? ⟨wr.heap.size, 0, none⟩ = some (.int .i64 4) ∧ W.cell? ⟨wr.heap.size, 1, none⟩ = some (.int .i64 inn) ∧ W.cell? ⟨wr.heap.size, 2, none⟩ = some (.string it) ∧ W.cell? ⟨wr.heap.size, 3, none⟩ = some (.slice iA ia ic) ∧ W.cell? ⟨wr.heap.size, 4, none⟩ = some (.slice iA' ia' ic')) ∧ W.cell? ⟨g2, o2 + 3, none⟩ = some (.string K2))) (by kernel_rfl) (⟨⟨y0, y1, y2, y3, y4⟩, c5⟩) (fun hHeld => ?_)
                        refine wpAnyH_take (i := 0) (oi := _) (v := ?v30041) (by simp only [List.getElem?_toArray, List.getElem?_cons_succ, List.getElem?_cons_zero]; rfl) (by kernel_rfl) (by kernel_rfl) (by kernel_rfl) (by exact fun _ _ _ h => h) (Or.inl ⟨by rfl, ?hy30041⟩) (by assumption) ?rest30041
                        case hy30041 => (intro w hSw; (try dsimp only at hSw); go_simp; try with_reducible rfl)
                        try simp only [Act.put, List.setIfInBounds_toArray, List.set_cons_zero, List.set_cons_succ]
                        refine wpAnyH_take (i := 1) (oi := _) (v := ?v30042) (by simp only [List.getElem?_toArray, List.getElem?_cons_succ, List.getElem?_cons_zero]; rfl) (by kernel_rfl) (by kernel_rfl) (by kernel_rfl) (by exact fun _ _ _ h => h) (Or.inl ⟨by rfl, ?hy30042⟩) (by assumption) ?rest30042
                        case hy30042 => (intro w hSw; (try dsimp only at hSw); go_simp; try with_reducible rfl)
                        try simp only [Act.put, List.setIfInBounds_toArray, List.set_cons_zero, List.set_cons_succ]
                        refine wpAnyH_take (i := 2) (oi := _) (v := ?v30043) (by simp only [List.getElem?_toArray, List.getElem?_cons_succ, List.getElem?_cons_zero]; rfl) (by kernel_rfl) (by kernel_rfl) (by kernel_rfl) (by exact fun _ _ _ h => h) (Or.inl ⟨by rfl, ?hy30043⟩) (by assumption) ?rest30043
                        case hy30043 => (intro w hSw; (try dsimp only at hSw); go_simp; try with_reducible rfl)
                        try simp only [Act.put, List.setIfInBounds_toArray, List.set_cons_zero, List.set_cons_succ]
                        refine wpAnyH_take (i := 3) (oi := _) (v := ?v30044) (by simp only [List.getElem?_toArray, List.getElem?_cons_succ, List.getElem?_cons_zero]; rfl) (by kernel_rfl) (by kernel_rfl) (by kernel_rfl) (by exact fun _ _ _ h => h) (Or.inl ⟨by rfl, ?hy30044⟩) (by assumption) ?rest30044
                        case hy30044 => (intro w hSw; (try dsimp only at hSw); go_simp; try with_reducible rfl)
                        try simp only [Act.put, List.setIfInBounds_toArray, List.set_cons_zero, List.set_cons_succ]
                        refine wpAnyH_take (i := 4) (oi := _) (v := ?v30045) (by simp only [List.getElem?_toArray, List.getElem?_cons_succ, List.getElem?_cons_zero]; rfl) (by kernel_rfl) (by kernel_rfl) (by kernel_rfl) (by exact fun _ _ _ h => h) (Or.inl ⟨by rfl, ?hy30045⟩) (by assumption) ?rest30045
                        case hy30045 => (intro w hSw; (try dsimp only at hSw); go_simp; try with_reducible rfl)
                        try simp only [Act.put, List.setIfInBounds_toArray, List.set_cons_zero, List.set_cons_succ]
                        refine wpAnyH_take (i := 5) (oi := _) (v := ?v30046) (by simp only [List.getElem?_toArray, List.getElem?_cons_succ, List.getElem?_cons_zero]; rfl) (by kernel_rfl) (by kernel_rfl) (by kernel_rfl) (by exact fun _ _ _ h => h) (Or.inl ⟨by rfl, ?hy30046⟩) (by assumption) ?rest30046
                        case hy30046 => (intro w hSw; (try dsimp only at hSw); go_simp; try with_reducible rfl)
                        try simp only [Act.put, List.setIfInBounds_toArray, List.set_cons_zero, List.set_cons_succ]
                        refine wpAnyH_take (i := 6) (oi := _) (v := ?v30047) (by simp only [List.getElem?_toArray, List.getElem?_cons_succ, List.getElem?_cons_zero]; rfl) (by kernel_rfl) (by kernel_rfl) (by kernel_rfl) (by exact fun _ _ _ h => h) (Or.inl ⟨by rfl, ?hy30047⟩) (by assumption) ?rest30047
                        case hy30047 => (intro w hSw; (try dsimp only at hSw); go_simp; try with_reducible rfl)
                        try simp only [Act.put, List.setIfInBounds_toArray, List.set_cons_zero, List.set_cons_succ]
                        refine wpAnyH_take (i := 7) (oi := _) (v := ?v30048) (by simp only [List.getElem?_toArray, List.getElem?_cons_succ, List.getElem?_cons_zero]; rfl) (by kernel_rfl) (by kernel_rfl) (by kernel_rfl) (by exact fun _ _ _ h => h) (Or.inl ⟨by rfl, ?hy30048⟩) (by assumption) ?rest30048
                        case hy30048 => (intro w hSw; (try dsimp only at hSw); go_simp; try with_reducible rfl)
                        try simp only [Act.put, List.setIfInBounds_toArray, List.set_cons_zero, List.set_cons_succ]
                        refine wpAnyH_take (i := 8) (oi := _) (v := ?v30049) (by simp only [List.getElem?_toArray, List.getElem?_cons_succ, List.getElem?_cons_zero]; rfl) (by kernel_rfl) (by kernel_rfl) (by kernel_rfl) (by exact fun _ _ _ h => h) (Or.inl ⟨by rfl, ?hy30049⟩) (by assumption) ?rest30049
                        case hy30049 => (intro w hSw; (try dsimp only at hSw); go_simp; try with_reducible rfl)
                        try simp only [Act.put, List.setIfInBounds_toArray, List.set_cons_zero, List.set_cons_succ]
                        refine wpAnyH_take (i := 9) (oi := _) (v := ?v30050) (by simp only [List.getElem?_toArray, List.getElem?_cons_succ, List.getElem?_cons_zero]; rfl) (by kernel_rfl) (by kernel_rfl) (by kernel_rfl) (by exact fun _ _ _ h => h) (Or.inl ⟨by rfl, ?hy30050⟩) (by assumption) ?rest30050
                        case hy30050 => (intro w hSw; (try dsimp only at hSw); go_simp; try with_reducible rfl)
                        try simp only [Act.put, List.setIfInBounds_toArray, List.set_cons_zero, List.set_cons_succ]
                        refine wpAnyH_take (i := 10) (oi := _) (v := ?v30051) (by simp only [List.getElem?_toArray, List.getElem?_cons_succ, List.getElem?_cons_zero]; rfl) (by kernel_rfl) (by kernel_rfl) (by kernel_rfl) (by exact fun _ _ _ h => h) (Or.inl ⟨by rfl, ?hy30051⟩) (by assumption) ?rest30051
                        case hy30051 => (intro w hSw; (try dsimp only at hSw); go_simp; try with_reducible rfl)
                        try simp only [Act.put, List.setIfInBounds_toArray, List.set_cons_zero, List.set_cons_succ]
                        refine wpAnyH_take (i := 11) (oi := _) (v := ?v30052) (by simp only [List.getElem?_toArray, List.getElem?_cons_succ, List.getElem?_cons_zero]; rfl) (by kernel_rfl) (by kernel_rfl) (by kernel_rfl) (by exact fun _ _ _ h => h) (Or.inl ⟨by rfl, ?hy30052⟩) (by assumption) ?rest30052
                        case hy30052 => (intro w hSw; (try dsimp only at hSw); go_simp; try with_reducible rfl)
                        try simp only [Act.put, List.setIfInBounds_toArray, List.set_cons_zero, List.set_cons_succ]
                        refine wpAnyH_take (i := 12) (oi := _) (v := ?v30053) (by simp only [List.getElem?_toArray, List.getElem?_cons_succ, List.getElem?_cons_zero]; rfl) (by kernel_rfl) (by kernel_rfl) (by kernel_rfl) (by exact fun _ _ _ h => h) (Or.inl ⟨by rfl, ?hy30053⟩) (by assumption) ?rest30053
                        case hy30053 => (intro w hSw; (try dsimp only at hSw); go_simp; try with_reducible rfl)
                        try simp only [Act.put, List.setIfInBounds_toArray, List.set_cons_zero, List.set_cons_succ]
                        refine wpAnyH_take (i := 13) (oi := _) (v := ?v30054) (by simp only [List.getElem?_toArray, List.getElem?_cons_succ, List.getElem?_cons_zero]; rfl) (by kernel_rfl) (by kernel_rfl) (by kernel_rfl) (by exact fun _ _ _ h => h) (Or.inl ⟨by rfl, ?hy30054⟩) (by assumption) ?rest30054
                        case hy30054 => (intro w hSw; (try dsimp only at hSw); go_simp; try with_reducible rfl)
                        try simp only [Act.put, List.setIfInBounds_toArray, List.set_cons_zero, List.set_cons_succ]
                        refine wpAnyH_take (i := 14) (oi := _) (v := undef) (by simp only [List.getElem?_toArray, List.getElem?_cons_succ, List.getElem?_cons_zero]; rfl) (by kernel_rfl) (by kernel_rfl) (by kernel_rfl) (by exact fun _ _ _ h => h) (Or.inr ⟨by rfl, rfl⟩) (by assumption) ?rest30055
                        try simp only [Act.put, List.setIfInBounds_toArray, List.set_cons_zero, List.set_cons_succ]
                        refine wpAnyH_take (i := 15) (oi := _) (v := undef) (by simp only [List.getElem?_toArray, List.getElem?_cons_succ, List.getElem?_cons_zero]; rfl) (by kernel_rfl) (by kernel_rfl) (by kernel_rfl) (by exact fun _ _ _ h => h) (Or.inr ⟨by rfl, rfl⟩) (by assumption) ?rest30056
                        try simp only [Act.put, List.setIfInBounds_toArray, List.set_cons_zero, List.set_cons_succ]
                        refine wpAnyH_take (i := 16) (oi := _) (v := undef) (by simp only [List.getElem?_toArray, List.getElem?_cons_succ, List.getElem?_cons_zero]; rfl) (by kernel_rfl) (by kernel_rfl) (by kernel_rfl) (by exact fun _ _ _ h => h) (Or.inr ⟨by rfl, rfl⟩) (by assumption) ?rest30057
                        try simp only [Act.put, List.setIfInBounds_toArray, List.set_cons_zero, List.set_cons_succ]
                        refine wpAnyH_take (i := 17) (oi := _) (v := undef) (by simp only [List.getElem?_toArray, List.getElem?_cons_succ, List.getElem?_cons_zero]; rfl) (by kernel_rfl) (by kernel_rfl) (by kernel_rfl) (by exact fun _ _ _ h => h) (Or.inr ⟨by rfl, rfl⟩) (by assumption) ?rest30058
                        try simp only [Act.put, List.setIfInBounds_toArray, List.set_cons_zero, List.set_cons_succ]
                        refine wpAnyH_take (i := 18) (oi := _) (v := undef) (by simp only [List.getElem?_toArray, List.getElem?_cons_succ, List.getElem?_cons_zero]; rfl) (by kernel_rfl) (by kernel_rfl) (by kernel_rfl) (by exact fun _ _ _ h => h) (Or.inr ⟨by rfl, rfl⟩) (by assumption) ?rest30059
                        try simp only [Act.put, List.setIfInBounds_toArray, List.set_cons_zero, List.set_cons_succ]
                        refine wpAnyH_take (i := 19) (oi := _) (v := undef) (by simp only [List.getElem?_toArray, List.getElem?_cons_succ, List.getElem?_cons_zero]; rfl) (by kernel_rfl) (by kernel_rfl) (by kernel_rfl) (by exact fun _ _ _ h => h) (Or.inr ⟨by rfl, rfl⟩) (by assumption) ?rest30060
                        try simp only [Act.put, List.setIfInBounds_toArray, List.set_cons_zero, List.set_cons_succ]
                        refine wpAnyH_take (i := 20) (oi := _) (v := undef) (by simp only [List.getElem?_toArray, List.getElem?_cons_succ, List.getElem?_cons_zero]; rfl) (by kernel_rfl) (by kernel_rfl) (by kernel_rfl) (by exact fun _ _ _ h => h) (Or.inr ⟨by rfl, rfl⟩) (by assumption) ?rest30061
                        try simp only [Act.put, List.setIfInBounds_toArray, List.set_cons_zero, List.set_cons_succ]
                        refine wpAnyH_take (i := 21) (oi := _) (v := undef) (by simp only [List.getElem?_toArray, List.getElem?_cons_succ, List.getElem?_cons_zero]; rfl) (by kernel_rfl) (by kernel_rfl) (by kernel_rfl) (by exact fun _ _ _ h => h) (Or.inr ⟨by rfl, rfl⟩) (by assumption) ?rest30062
                        try simp only [Act.put, List.setIfInBounds_toArray, List.set_cons_zero, List.set_cons_succ]
                        refine wpAnyH_take (i := 22) (oi := _) (v := undef) (by simp only [List.getElem?_toArray, List.getElem?_cons_succ, List.getElem?_cons_zero]; rfl) (by kernel_rfl) (by kernel_rfl) (by kernel_rfl) (by exact fun _ _ _ h => h) (Or.inr ⟨by rfl, rfl⟩) (by assumption) ?rest30063
                        try simp only [Act.put, List.setIfInBounds_toArray, List.set_cons_zero, List.set_cons_succ]
                        refine wpAnyH_take (i := 23) (oi := _) (v := undef) (by simp only [List.getElem?_toArray, List.getElem?_cons_succ, List.getElem?_cons_zero]; rfl) (by kernel_rfl) (by kernel_rfl) (by kernel_rfl) (by exact fun _ _ _ h => h) (Or.inr ⟨by rfl, rfl⟩) (by assumption) ?rest30064
                        try simp only [Act.put, List.setIfInBounds_toArray, List.set_cons_zero, List.set_cons_succ]
                        refine wpAnyH_take (i := 24) (oi := _) (v := undef) (by simp only [List.getElem?_toArray, List.getElem?_cons_succ, List.getElem?_cons_zero]; rfl) (by kernel_rfl) (by kernel_rfl) (by kernel_rfl) (by exact fun _ _ _ h => h) (Or.inr ⟨by rfl, rfl⟩) (by assumption) ?rest30065
                        try simp only [Act.put, List.setIfInBounds_toArray, List.set_cons_zero, List.set_cons_succ]
                        refine wpAnyH_take (i := 25) (oi := _) (v := ?v30066) (by simp only [List.getElem?_toArray, List.getElem?_cons_succ, List.getElem?_cons_zero]; rfl) (by kernel_rfl) (by kernel_rfl) (by kernel_rfl) (by exact fun _ _ _ h => h) (Or.inl ⟨by rfl, ?hy30066⟩) (by assumption) ?rest30066
                        case hy30066 => (intro w hSw; (try dsimp only at hSw); go_simp; try with_reducible rfl)
                        try simp only [Act.put, List.setIfInBounds_toArray, List.set_cons_zero, List.set_cons_succ]
                        refine wpAnyH_done (by kernel_rfl) ?_ _
                        go_wp2_with fail
                        go_roundw
                        case rel => exact ⟨q + 1, Lq, A, c, xs, by omega, by go_num, Lib.hid ⟨HK.out, by have := HLQ.out; omega, TX.out.later (Below.refl _ _).drew⟩⟩
                        case measure => simp [intOf]; omega
                      have q5 : decide ((K2.size : Int) ≤ it.size) = true := by have := HKS.out; have := HZT.out; simp; omega
                      have q6 : decide (K2.size ≤ it.size) = true := by have := HKS.out; have := HZT.out; simp; omega
                      have q7 := HEXT.out h5
                      have q8 : (K2.size : Int) ≤ it.size := by have := HKS.out; have := HZT.out; omega
                      have q9 : (0 : Int) ≤ K2.size := by omega
                      by_cases h6 : x.text.take s.length = s
                      case neg => as_aux_lemma =>
                        rw [decide_eq_false h6] at q7
                        have HK := Lib.hid (HKEEP.out (by rw [decide_eq_false h6, Bool.and_false]))
                        clear h6 h5
                        refine wp_region_held_drew (S := (fun W => (W.cell? ⟨wr.heap.size, 0, none⟩ = some (.int .i64 4) ∧ W.cell? ⟨wr.heap.size, 1, none⟩ = some (.int .i64 inn) ∧ W.cell? ⟨wr.heap.size, 2, none⟩ = some (.string it) ∧ W.cell? ⟨wr.heap.size, 3, none⟩ = some (.slice iA ia ic) ∧ W.cell? ⟨wr.heap.size, 4, none⟩ = some (.slice iA' ia' ic')) ∧ W.cell? ⟨g2, o2 + 3, none⟩ = some (.string K2))) (by kernel_rfl) (⟨⟨y0, y1, y2, y3, y4⟩, c5⟩) (fun hHeld => ?_)
                        refine wpAnyH_take (i := 0) (oi := _) (v := ?v30067) (by simp only [List.getElem?_toArray, List.getElem?_cons_succ, List.getElem?_cons_zero]; rfl) (by kernel_rfl) (by kernel_rfl) (by kernel_rfl) (by exact fun _ _ _ h => h) (Or.inl ⟨by rfl, ?hy30067⟩) (by assumption) ?rest30067
                        case hy30067 => (intro w hSw; (try dsimp only at hSw); go_simp; try with_reducible rfl)
                        try simp only [Act.put, List.setIfInBounds_toArray, List.set_cons_zero, List.set_cons_succ]
                        refine wpAnyH_take (i := 1) (oi := _) (v := ?v30068) (by simp only [List.getElem?_toArray, List.getElem?_cons_succ, List.getElem?_cons_zero]; rfl) (by kernel_rfl) (by kernel_rfl) (by kernel_rfl) (by exact fun _ _ _ h => h) (Or.inl ⟨by rfl, ?hy30068⟩) (by assumption) ?rest30068
                        case hy30068 => (intro w hSw; (try dsimp only at hSw); go_simp; try with_reducible rfl)
                        try simp only [Act.put, List.setIfInBounds_toArray, List.set_cons_zero, List.set_cons_succ]
                        refine wpAnyH_take (i := 2) (oi := _) (v := ?v30069) (by simp only [List.getElem?_toArray, List.getElem?_cons_succ, List.getElem?_cons_zero]; rfl) (by kernel_rfl) (by kernel_rfl) (by kernel_rfl) (by exact fun _ _ _ h => h) (Or.inl ⟨by rfl, ?hy30069⟩) (by assumption) ?rest30069
                        case hy30069 => (intro w hSw; (try dsimp only at hSw); go_simp; try with_reducible rfl)
                        try simp only [Act.put, List.setIfInBounds_toArray, List.set_cons_zero, List.set_cons_succ]
                        refine wpAnyH_take (i := 3) (oi := _) (v := ?v30070) (by simp only [List.getElem?_toArray, List.getElem?_cons_succ, List.getElem?_cons_zero]; rfl) (by kernel_rfl) (by kernel_rfl) (by kernel_rfl) (by exact fun _ _ _ h => h) (Or.inl ⟨by rfl, ?hy30070⟩) (by assumption) ?rest30070
                        case hy30070 => (intro w hSw; (try dsimp only at hSw); go_simp; try with_reducible rfl)
                        try simp only [Act.put, List.setIfInBounds_toArray, List.set_cons_zero, List.set_cons_succ]
                        refine wpAnyH_take (i := 4) (oi := _) (v := ?v30071) (by simp only [List.getElem?_toArray, List.getElem?_cons_succ, List.getElem?_cons_zero]; rfl) (by kernel_rfl) (by kernel_rfl) (by kernel_rfl) (by exact fun _ _ _ h => h) (Or.inl ⟨by rfl, ?hy30071⟩) (by assumption) ?rest30071
                        case hy30071 => (intro w hSw; (try dsimp only at hSw); go_simp; try with_reducible rfl)
                        try simp only [Act.put, List.setIfInBounds_toArray, List.set_cons_zero, List.set_cons_succ]
                        refine wpAnyH_take (i := 5) (oi := _) (v := ?v30072) (by simp only [List.getElem?_toArray, List.getElem?_cons_succ, List.getElem?_cons_zero]; rfl) (by kernel_rfl) (by kernel_rfl) (by kernel_rfl) (by exact fun _ _ _ h => h) (Or.inl ⟨by rfl, ?hy30072⟩) (by assumption) ?rest30072
                        case hy30072 => (intro w hSw; (try dsimp only at hSw); go_simp; try with_reducible rfl)
                        try simp only [Act.put, List.setIfInBounds_toArray, List.set_cons_zero, List.set_cons_succ]
                        refine wpAnyH_take (i := 6) (oi := _) (v := ?v30073) (by simp only [List.getElem?_toArray, List.getElem?_cons_succ, List.getElem?_cons_zero]; rfl) (by kernel_rfl) (by kernel_rfl) (by kernel_rfl) (by exact fun _ _ _ h => h) (Or.inl ⟨by rfl, ?hy30073⟩) (by assumption) ?rest30073
                        case hy30073 => (intro w hSw; (try dsimp only at hSw); go_simp; try with_reducible rfl)
                        try simp only [Act.put, List.setIfInBounds_toArray, List.set_cons_zero, List.set_cons_succ]
                        refine wpAnyH_take (i := 7) (oi := _) (v := ?v30074) (by simp only [List.getElem?_toArray, List.getElem?_cons_succ, List.getElem?_cons_zero]; rfl) (by kernel_rfl) (by kernel_rfl) (by kernel_rfl) (by exact fun _ _ _ h => h) (Or.inl ⟨by rfl, ?hy30074⟩) (by assumption) ?rest30074
                        case hy30074 => (intro w hSw; (try dsimp only at hSw); go_simp; try with_reducible rfl)
                        try simp only [Act.put, List.setIfInBounds_toArray, List.set_cons_zero, List.set_cons_succ]
                        refine wpAnyH_take (i := 8) (oi := _) (v := ?v30075) (by simp only [List.getElem?_toArray, List.getElem?_cons_succ, List.getElem?_cons_zero]; rfl) (by kernel_rfl) (by kernel_rfl) (by kernel_rfl) (by exact fun _ _ _ h => h) (Or.inl ⟨by rfl, ?hy30075⟩) (by assumption) ?rest30075
                        case hy30075 => (intro w hSw; (try dsimp only at hSw); go_simp; try with_reducible rfl)
                        try simp only [Act.put, List.setIfInBounds_toArray, List.set_cons_zero, List.set_cons_succ]
                        refine wpAnyH_take (i := 9) (oi := _) (v := ?v30076) (by simp only [List.getElem?_toArray, List.getElem?_cons_succ, List.getElem?_cons_zero]; rfl) (by kernel_rfl) (by kernel_rfl) (by kernel_rfl) (by exact fun _ _ _ h => h) (Or.inl ⟨by rfl, ?hy30076⟩) (by assumption) ?rest30076
                        case hy30076 => (intro w hSw; (try dsimp only at hSw); go_simp; try with_reducible rfl)
                        try simp only [Act.put, List.setIfInBounds_toArray, List.set_cons_zero, List.set_cons_succ]
                        refine wpAnyH_take (i := 10) (oi := _) (v := ?v30077) (by simp only [List.getElem?_toArray, List.getElem?_cons_succ, List.getElem?_cons_zero]; rfl) (by kernel_rfl) (by kernel_rfl) (by kernel_rfl) (by exact fun _ _ _ h => h) (Or.inl ⟨by rfl, ?hy30077⟩) (by assumption) ?rest30077
                        case hy30077 => (intro w hSw; (try dsimp only at hSw); go_simp; try with_reducible rfl)
                        try simp only [Act.put, List.setIfInBounds_toArray, List.set_cons_zero, List.set_cons_succ]
                        refine wpAnyH_take (i := 11) (oi := _) (v := ?v30078) (by simp only [List.getElem?_toArray, List.getElem?_cons_succ, List.getElem?_cons_zero]; rfl) (by kernel_rfl) (by kernel_rfl) (by kernel_rfl) (by exact fun _ _ _ h => h) (Or.inl ⟨by rfl, ?hy30078⟩) (by assumption) ?rest30078
                        case hy30078 => (intro w hSw; (try dsimp only at hSw); go_simp; try with_reducible rfl)
                        try simp only [Act.put, List.setIfInBounds_toArray, List.set_cons_zero, List.set_cons_succ]
                        refine wpAnyH_take (i := 12) (oi := _) (v := ?v30079) (by simp only [List.getElem?_toArray, List.getElem?_cons_succ, List.getElem?_cons_zero]; rfl) (by kernel_rfl) (by kernel_rfl) (by kernel_rfl) (by exact fun _ _ _ h => h) (Or.inl ⟨by rfl, ?hy30079⟩) (by assumption) ?rest30079
                        case hy30079 => (intro w hSw; (try dsimp only at hSw); go_simp; try with_reducible rfl)
                        try simp only [Act.put, List.setIfInBounds_toArray, List.set_cons_zero, List.set_cons_succ]
                        refine wpAnyH_take (i := 13) (oi := _) (v := ?v30080) (by simp only [List.getElem?_toArray, List.getElem?_cons_succ, List.getElem?_cons_zero]; rfl) (by kernel_rfl) (by kernel_rfl) (by kernel_rfl) (by exact fun _ _ _ h => h) (Or.inl ⟨by rfl, ?hy30080⟩) (by assumption) ?rest30080
                        case hy30080 => (intro w hSw; (try dsimp only at hSw); go_simp; try with_reducible rfl)
                        try simp only [Act.put, List.setIfInBounds_toArray, List.set_cons_zero, List.set_cons_succ]
                        refine wpAnyH_take (i := 14) (oi := _) (v := ?v30081) (by simp only [List.getElem?_toArray, List.getElem?_cons_succ, List.getElem?_cons_zero]; rfl) (by kernel_rfl) (by kernel_rfl) (by kernel_rfl) (by exact fun _ _ _ h => h) (Or.inl ⟨by rfl, ?hy30081⟩) (by assumption) ?rest30081
                        case hy30081 => (intro w hSw; (try dsimp only at hSw); go_simp; try with_reducible rfl)
                        try simp only [Act.put, List.setIfInBounds_toArray, List.set_cons_zero, List.set_cons_succ]
                        refine wpAnyH_take (i := 15) (oi := _) (v := ?v30082) (by simp only [List.getElem?_toArray, List.getElem?_cons_succ, List.getElem?_cons_zero]; rfl) (by kernel_rfl) (by kernel_rfl) (by kernel_rfl) (by exact fun _ _ _ h => h) (Or.inl ⟨by rfl, ?hy30082⟩) (by assumption) ?rest30082
                        case hy30082 => (intro w hSw; (try dsimp only at hSw); go_simp; try with_reducible rfl)
                        try simp only [Act.put, List.setIfInBounds_toArray, List.set_cons_zero, List.set_cons_succ]
                        refine wpAnyH_take (i := 16) (oi := _) (v := ?v30083) (by simp only [List.getElem?_toArray, List.getElem?_cons_succ, List.getElem?_cons_zero]; rfl) (by kernel_rfl) (by kernel_rfl) (by kernel_rfl) (by exact fun _ _ _ h => h) (Or.inl ⟨by rfl, ?hy30083⟩) (by assumption) ?rest30083
                        case hy30083 => (intro w hSw; (try dsimp only at hSw); go_simp; try with_reducible rfl)
                        try simp only [Act.put, List.setIfInBounds_toArray, List.set_cons_zero, List.set_cons_succ]
                        refine wpAnyH_take (i := 17) (oi := _) (v := ?v30084) (by simp only [List.getElem?_toArray, List.getElem?_cons_succ, List.getElem?_cons_zero]; rfl) (by kernel_rfl) (by kernel_rfl) (by kernel_rfl) (by exact fun _ _ _ h => h) (Or.inl ⟨by rfl, ?hy30084⟩) (by assumption) ?rest30084
                        case hy30084 => (intro w hSw; (try dsimp only at hSw); go_simp; try with_reducible rfl)
                        try simp only [Act.put, List.setIfInBounds_toArray, List.set_cons_zero, List.set_cons_succ]
                        refine wpAnyH_take (i := 18) (oi := _) (v := ?v30085) (by simp only [List.getElem?_toArray, List.getElem?_cons_succ, List.getElem?_cons_zero]; rfl) (by kernel_rfl) (by kernel_rfl) (by kernel_rfl) (by exact fun _ _ _ h => h) (Or.inl ⟨by rfl, ?hy30085⟩) (by assumption) ?rest30085
                        case hy30085 => (intro w hSw; (try dsimp only at hSw); go_simp; try with_reducible rfl)
                        try simp only [Act.put, List.setIfInBounds_toArray, List.set_cons_zero, List.set_cons_succ]
                        refine wpAnyH_take (i := 19) (oi := _) (v := ?v30086) (by simp only [List.getElem?_toArray, List.getElem?_cons_succ, List.getElem?_cons_zero]; rfl) (by kernel_rfl) (by kernel_rfl) (by kernel_rfl) (by exact fun _ _ _ h => h) (Or.inl ⟨by rfl, ?hy30086⟩) (by assumption) ?rest30086
                        case hy30086 => (intro w hSw; (try dsimp only at hSw); go_simp; try with_reducible rfl)
                        try simp only [Act.put, List.setIfInBounds_toArray, List.set_cons_zero, List.set_cons_succ]
                        refine wpAnyH_take (i := 20) (oi := _) (v := ?v30087) (by simp only [List.getElem?_toArray, List.getElem?_cons_succ, List.getElem?_cons_zero]; rfl) (by kernel_rfl) (by kernel_rfl) (by kernel_rfl) (by exact fun _ _ _ h => h) (Or.inl ⟨by rfl, ?hy30087⟩) (by assumption) ?rest30087
                        case hy30087 => (intro w hSw; (try dsimp only at hSw); go_simp; try with_reducible rfl)
                        try simp only [Act.put, List.setIfInBounds_toArray, List.set_cons_zero, List.set_cons_succ]
                        refine wpAnyH_take (i := 21) (oi := _) (v := ?v30088) (by simp only [List.getElem?_toArray, List.getElem?_cons_succ, List.getElem?_cons_zero]; rfl) (by kernel_rfl) (by kernel_rfl) (by kernel_rfl) (by exact fun _ _ _ h => h) (Or.inl ⟨by rfl, ?hy30088⟩) (by assumption) ?rest30088
                        case hy30088 => (intro w hSw; (try dsimp only at hSw); go_simp; try with_reducible rfl)
                        try simp only [Act.put, List.setIfInBounds_toArray, List.set_cons_zero, List.set_cons_succ]
                        refine wpAnyH_take (i := 22) (oi := _) (v := ?v30089) (by simp only [List.getElem?_toArray, List.getElem?_cons_succ, List.getElem?_cons_zero]; rfl) (by kernel_rfl) (by kernel_rfl) (by kernel_rfl) (by exact fun _ _ _ h => h) (Or.inl ⟨by rfl, ?hy30089⟩) (by assumption) ?rest30089
                        case hy30089 => (intro w hSw; (try dsimp only at hSw); go_simp; try with_reducible rfl)
                        try simp only [Act.put, List.setIfInBounds_toArray, List.set_cons_zero, List.set_cons_succ]
                        refine wpAnyH_take (i := 23) (oi := _) (v := ?v30090) (by simp only [List.getElem?_toArray, List.getElem?_cons_succ, List.getElem?_cons_zero]; rfl) (by kernel_rfl) (by kernel_rfl) (by kernel_rfl) (by exact fun _ _ _ h => h) (Or.inl ⟨by rfl, ?hy30090⟩) (by assumption) ?rest30090
                        case hy30090 => (intro w hSw; (try dsimp only at hSw); go_simp; try with_reducible rfl)
                        try simp only [Act.put, List.setIfInBounds_toArray, List.set_cons_zero, List.set_cons_succ]
                        refine wpAnyH_take (i := 24) (oi := _) (v := ?v30091) (by simp only [List.getElem?_toArray, List.getElem?_cons_succ, List.getElem?_cons_zero]; rfl) (by kernel_rfl) (by kernel_rfl) (by kernel_rfl) (by exact fun _ _ _ h => h) (Or.inl ⟨by rfl, ?hy30091⟩) (by assumption) ?rest30091
                        case hy30091 => (intro w hSw; (try dsimp only at hSw); go_simp; try with_reducible rfl)
                        try simp only [Act.put, List.setIfInBounds_toArray, List.set_cons_zero, List.set_cons_succ]
                        refine wpAnyH_take (i := 25) (oi := _) (v := ?v30092) (by simp only [List.getElem?_toArray, List.getElem?_cons_succ, List.getElem?_cons_zero]; rfl) (by kernel_rfl) (by kernel_rfl) (by kernel_rfl) (by exact fun _ _ _ h => h) (Or.inl ⟨by rfl, ?hy30092⟩) (by assumption) ?rest30092
                        case hy30092 => (intro w hSw; (try dsimp only at hSw); go_simp; try with_reducible rfl)
                        try simp only [Act.put, List.setIfInBounds_toArray, List.set_cons_zero, List.set_cons_succ]
                        refine wpAnyH_done (by kernel_rfl) ?_ _
                        go_wp2_with fail
                        go_roundw
                        case rel => exact ⟨q + 1, Lq, A, c, xs, by omega, by go_num, Lib.hid ⟨HK.out, by have := HLQ.out; omega, TX.out.later (Below.refl _ _).drew⟩⟩
                        case measure => simp [intOf]; omega
                      as_aux_lemma =>
                      rw [decide_eq_true h6] at q7
                      have HM := Lib.hid (HMORE.out (by rw [← HIK.out, decide_eq_true h6]; rfl))
                      clear h6 h5
                      refine wp_region_held_drew (S := (fun W => (W.cell? ⟨wr.heap.size, 0, none⟩ = some (.int .i64 4) ∧ W.cell? ⟨wr.heap.size, 1, none⟩ = some (.int .i64 inn) ∧ W.cell? ⟨wr.heap.size, 2, none⟩ = some (.string it) ∧ W.cell? ⟨wr.heap.size, 3, none⟩ = some (.slice iA ia ic) ∧ W.cell? ⟨wr.heap.size, 4, none⟩ = some (.slice iA' ia' ic')) ∧ W.cell? ⟨g2, o2 + 3, none⟩ = some (.string K2))) (by kernel_rfl) (⟨⟨y0, y1, y2, y3, y4⟩, c5⟩) (fun hHeld => ?_)
                      refine wpAnyH_take (i := 0) (oi := _) (v := ?v30093) (by simp only [List.getElem?_toArray, List.getElem?_cons_succ, List.getElem?_cons_zero]; rfl) (by kernel_rfl) (by kernel_rfl) (by kernel_rfl) (by exact fun _ _ _ h => h) (Or.inl ⟨by rfl, ?hy30093⟩) (by assumption) ?rest30093
                      case hy30093 => (intro w hSw; (try dsimp only at hSw); go_simp; try with_reducible rfl)
                      try simp only [Act.put, List.setIfInBounds_toArray, List.set_cons_zero, List.set_cons_succ]
                      refine wpAnyH_take (i := 1) (oi := _) (v := ?v30094) (by simp only [List.getElem?_toArray, List.getElem?_cons_succ, List.getElem?_cons_zero]; rfl) (by kernel_rfl) (by kernel_rfl) (by kernel_rfl) (by exact fun _ _ _ h => h) (Or.inl ⟨by rfl, ?hy30094⟩) (by assumption) ?rest30094
                      case hy30094 => (intro w hSw; (try dsimp only at hSw); go_simp; try with_reducible rfl)
                      try simp only [Act.put, List.setIfInBounds_toArray, List.set_cons_zero, List.set_cons_succ]
                      refine wpAnyH_take (i := 2) (oi := _) (v := ?v30095) (by simp only [List.getElem?_toArray, List.getElem?_cons_succ, List.getElem?_cons_zero]; rfl) (by kernel_rfl) (by kernel_rfl) (by kernel_rfl) (by exact fun _ _ _ h => h) (Or.inl ⟨by rfl, ?hy30095⟩) (by assumption) ?rest30095
                      case hy30095 => (intro w hSw; (try dsimp only at hSw); go_simp; try with_reducible rfl)
                      try simp only [Act.put, List.setIfInBounds_toArray, List.set_cons_zero, List.set_cons_succ]
                      refine wpAnyH_take (i := 3) (oi := _) (v := ?v30096) (by simp only [List.getElem?_toArray, List.getElem?_cons_succ, List.getElem?_cons_zero]; rfl) (by kernel_rfl) (by kernel_rfl) (by kernel_rfl) (by exact fun _ _ _ h => h) (Or.inl ⟨by rfl, ?hy30096⟩) (by assumption) ?rest30096
                      case hy30096 => (intro w hSw; (try dsimp only at hSw); go_simp; try with_reducible rfl)
                      try simp only [Act.put, List.setIfInBounds_toArray, List.set_cons_zero, List.set_cons_succ]
                      refine wpAnyH_take (i := 4) (oi := _) (v := ?v30097) (by simp only [List.getElem?_toArray, List.getElem?_cons_succ, List.getElem?_cons_zero]; rfl) (by kernel_rfl) (by kernel_rfl) (by kernel_rfl) (by exact fun _ _ _ h => h) (Or.inl ⟨by rfl, ?hy30097⟩) (by assumption) ?rest30097
                      case hy30097 => (intro w hSw; (try dsimp only at hSw); go_simp; try with_reducible rfl)
                      try simp only [Act.put, List.setIfInBounds_toArray, List.set_cons_zero, List.set_cons_succ]
                      refine wpAnyH_take (i := 5) (oi := _) (v := ?v30098) (by simp only [List.getElem?_toArray, List.getElem?_cons_succ, List.getElem?_cons_zero]; rfl) (by kernel_rfl) (by kernel_rfl) (by kernel_rfl) (by exact fun _ _ _ h => h) (Or.inl ⟨by rfl, ?hy30098⟩) (by assumption) ?rest30098
                      case hy30098 => (intro w hSw; (try dsimp only at hSw); go_simp; try with_reducible rfl)
                      try simp only [Act.put, List.setIfInBounds_toArray, List.set_cons_zero, List.set_cons_succ]
                      refine wpAnyH_take (i := 6) (oi := _) (v := ?v30099) (by simp only [List.getElem?_toArray, List.getElem?_cons_succ, List.getElem?_cons_zero]; rfl) (by kernel_rfl) (by kernel_rfl) (by kernel_rfl) (by exact fun _ _ _ h => h) (Or.inl ⟨by rfl, ?hy30099⟩) (by assumption) ?rest30099
                      case hy30099 => (intro w hSw; (try dsimp only at hSw); go_simp; try with_reducible rfl)
                      try simp only [Act.put, List.setIfInBounds_toArray, List.set_cons_zero, List.set_cons_succ]
                      refine wpAnyH_take (i := 7) (oi := _) (v := ?v30100) (by simp only [List.getElem?_toArray, List.getElem?_cons_succ, List.getElem?_cons_zero]; rfl) (by kernel_rfl) (by kernel_rfl) (by kernel_rfl) (by exact fun _ _ _ h => h) (Or.inl ⟨by rfl, ?hy30100⟩) (by assumption) ?rest30100
                      case hy30100 => (intro w hSw; (try dsimp only at hSw); go_simp; try with_reducible rfl)
                      try simp only [Act.put, List.setIfInBounds_toArray, List.set_cons_zero, List.set_cons_succ]
                      refine wpAnyH_take (i := 8) (oi := _) (v := ?v30101) (by simp only [List.getElem?_toArray, List.getElem?_cons_succ, List.getElem?_cons_zero]; rfl) (by kernel_rfl) (by kernel_rfl) (by kernel_rfl) (by exact fun _ _ _ h => h) (Or.inl ⟨by rfl, ?hy30101⟩) (by assumption) ?rest30101
                      case hy30101 => (intro w hSw; (try dsimp only at hSw); go_simp; try with_reducible rfl)
                      try simp only [Act.put, List.setIfInBounds_toArray, List.set_cons_zero, List.set_cons_succ]
                      refine wpAnyH_take (i := 9) (oi := _) (v := ?v30102) (by simp only [List.getElem?_toArray, List.getElem?_cons_succ, List.getElem?_cons_zero]; rfl) (by kernel_rfl) (by kernel_rfl) (by kernel_rfl) (by exact fun _ _ _ h => h) (Or.inl ⟨by rfl, ?hy30102⟩) (by assumption) ?rest30102
                      case hy30102 => (intro w hSw; (try dsimp only at hSw); go_simp; try with_reducible rfl)
                      try simp only [Act.put, List.setIfInBounds_toArray, List.set_cons_zero, List.set_cons_succ]
                      refine wpAnyH_take (i := 10) (oi := _) (v := ?v30103) (by simp only [List.getElem?_toArray, List.getElem?_cons_succ, List.getElem?_cons_zero]; rfl) (by kernel_rfl) (by kernel_rfl) (by kernel_rfl) (by exact fun _ _ _ h => h) (Or.inl ⟨by rfl, ?hy30103⟩) (by assumption) ?rest30103
                      case hy30103 => (intro w hSw; (try dsimp only at hSw); go_simp; try with_reducible rfl)
                      try simp only [Act.put, List.setIfInBounds_toArray, List.set_cons_zero, List.set_cons_succ]
                      refine wpAnyH_take (i := 11) (oi := _) (v := ?v30104) (by simp only [List.getElem?_toArray, List.getElem?_cons_succ, List.getElem?_cons_zero]; rfl) (by kernel_rfl) (by kernel_rfl) (by kernel_rfl) (by exact fun _ _ _ h => h) (Or.inl ⟨by rfl, ?hy30104⟩) (by assumption) ?rest30104
                      case hy30104 => (intro w hSw; (try dsimp only at hSw); go_simp; try with_reducible rfl)
                      try simp only [Act.put, List.setIfInBounds_toArray, List.set_cons_zero, List.set_cons_succ]
                      refine wpAnyH_take (i := 12) (oi := _) (v := ?v30105) (by simp only [List.getElem?_toArray, List.getElem?_cons_succ, List.getElem?_cons_zero]; rfl) (by kernel_rfl) (by kernel_rfl) (by kernel_rfl) (by exact fun _ _ _ h => h) (Or.inl ⟨by rfl, ?hy30105⟩) (by assumption) ?rest30105
                      case hy30105 => (intro w hSw; (try dsimp only at hSw); go_simp; try with_reducible rfl)
                      try simp only [Act.put, List.setIfInBounds_toArray, List.set_cons_zero, List.set_cons_succ]
                      refine wpAnyH_take (i := 13) (oi := _) (v := ?v30106) (by simp only [List.getElem?_toArray, List.getElem?_cons_succ, List.getElem?_cons_zero]; rfl) (by kernel_rfl) (by kernel_rfl) (by kernel_rfl) (by exact fun _ _ _ h => h) (Or.inl ⟨by rfl, ?hy30106⟩) (by assumption) ?rest30106
                      case hy30106 => (intro w hSw; (try dsimp only at hSw); go_simp; try with_reducible rfl)
                      try simp only [Act.put, List.setIfInBounds_toArray, List.set_cons_zero, List.set_cons_succ]
                      refine wpAnyH_take (i := 14) (oi := _) (v := ?v30107) (by simp only [List.getElem?_toArray, List.getElem?_cons_succ, List.getElem?_cons_zero]; rfl) (by kernel_rfl) (by kernel_rfl) (by kernel_rfl) (by exact fun _ _ _ h => h) (Or.inl ⟨by rfl, ?hy30107⟩) (by assumption) ?rest30107
                      case hy30107 => (intro w hSw; (try dsimp only at hSw); go_simp; try with_reducible rfl)
                      try simp only [Act.put, List.setIfInBounds_toArray, List.set_cons_zero, List.set_cons_succ]
                      refine wpAnyH_take (i := 15) (oi := _) (v := ?v30108) (by simp only [List.getElem?_toArray, List.getElem?_cons_succ, List.getElem?_cons_zero]; rfl) (by kernel_rfl) (by kernel_rfl) (by kernel_rfl) (by exact fun _ _ _ h => h) (Or.inl ⟨by rfl, ?hy30108⟩) (by assumption) ?rest30108
                      case hy30108 => (intro w hSw; (try dsimp only at hSw); go_simp; try with_reducible rfl)
                      try simp only [Act.put, List.setIfInBounds_toArray, List.set_cons_zero, List.set_cons_succ]
                      refine wpAnyH_take (i := 16) (oi := _) (v := ?v30109) (by simp only [List.getElem?_toArray, List.getElem?_cons_succ, List.getElem?_cons_zero]; rfl) (by kernel_rfl) (by kernel_rfl) (by kernel_rfl) (by exact fun _ _ _ h => h) (Or.inl ⟨by rfl, ?hy30109⟩) (by assumption) ?rest30109
                      case hy30109 => (intro w hSw; (try dsimp only at hSw); go_simp; try with_reducible rfl)
                      try simp only [Act.put, List.setIfInBounds_toArray, List.set_cons_zero, List.set_cons_succ]
                      refine wpAnyH_take (i := 17) (oi := _) (v := ?v30110) (by simp only [List.getElem?_toArray, List.getElem?_cons_succ, List.getElem?_cons_zero]; rfl) (by kernel_rfl) (by kernel_rfl) (by kernel_rfl) (by exact fun _ _ _ h => h) (Or.inl ⟨by rfl, ?hy30110⟩) (by assumption) ?rest30110
                      case hy30110 => (intro w hSw; (try dsimp only at hSw); go_simp; try with_reducible rfl)
                      try simp only [Act.put, List.setIfInBounds_toArray, List.set_cons_zero, List.set_cons_succ]
                      refine wpAnyH_take (i := 18) (oi := _) (v := ?v30111) (by simp only [List.getElem?_toArray, List.getElem?_cons_succ, List.getElem?_cons_zero]; rfl) (by kernel_rfl) (by kernel_rfl) (by kernel_rfl) (by exact fun _ _ _ h => h) (Or.inl ⟨by rfl, ?hy30111⟩) (by assumption) ?rest30111
                      case hy30111 => (intro w hSw; (try dsimp only at hSw); go_simp; try with_reducible rfl)
                      try simp only [Act.put, List.setIfInBounds_toArray, List.set_cons_zero, List.set_cons_succ]
                      refine wpAnyH_take (i := 19) (oi := _) (v := ?v30112) (by simp only [List.getElem?_toArray, List.getElem?_cons_succ, List.getElem?_cons_zero]; rfl) (by kernel_rfl) (by kernel_rfl) (by kernel_rfl) (by exact fun _ _ _ h => h) (Or.inl ⟨by rfl, ?hy30112⟩) (by assumption) ?rest30112
                      case hy30112 => (intro w hSw; (try dsimp only at hSw); go_simp; try with_reducible rfl)
                      try simp only [Act.put, List.setIfInBounds_toArray, List.set_cons_zero, List.set_cons_succ]
                      refine wpAnyH_take (i := 20) (oi := _) (v := ?v30113) (by simp only [List.getElem?_toArray, List.getElem?_cons_succ, List.getElem?_cons_zero]; rfl) (by kernel_rfl) (by kernel_rfl) (by kernel_rfl) (by exact fun _ _ _ h => h) (Or.inl ⟨by rfl, ?hy30113⟩) (by assumption) ?rest30113
                      case hy30113 => (intro w hSw; (try dsimp only at hSw); go_simp; try with_reducible rfl)
                      try simp only [Act.put, List.setIfInBounds_toArray, List.set_cons_zero, List.set_cons_succ]
                      refine wpAnyH_take (i := 21) (oi := _) (v := ?v30114) (by simp only [List.getElem?_toArray, List.getElem?_cons_succ, List.getElem?_cons_zero]; rfl) (by kernel_rfl) (by kernel_rfl) (by kernel_rfl) (by exact fun _ _ _ h => h) (Or.inl ⟨by rfl, ?hy30114⟩) (by assumption) ?rest30114
                      case hy30114 => (intro w hSw; (try dsimp only at hSw); go_simp; try with_reducible rfl)
                      try simp only [Act.put, List.setIfInBounds_toArray, List.set_cons_zero, List.set_cons_succ]
                      refine wpAnyH_take (i := 22) (oi := _) (v := ?v30115) (by simp only [List.getElem?_toArray, List.getElem?_cons_succ, List.getElem?_cons_zero]; rfl) (by kernel_rfl) (by kernel_rfl) (by kernel_rfl) (by exact fun _ _ _ h => h) (Or.inl ⟨by rfl, ?hy30115⟩) (by assumption) ?rest30115
                      case hy30115 => (intro w hSw; (try dsimp only at hSw); go_simp; try with_reducible rfl)
                      try simp only [Act.put, List.setIfInBounds_toArray, List.set_cons_zero, List.set_cons_succ]
                      refine wpAnyH_take (i := 23) (oi := _) (v := ?v30116) (by simp only [List.getElem?_toArray, List.getElem?_cons_succ, List.getElem?_cons_zero]; rfl) (by kernel_rfl) (by kernel_rfl) (by kernel_rfl) (by exact fun _ _ _ h => h) (Or.inl ⟨by rfl, ?hy30116⟩) (by assumption) ?rest30116
                      case hy30116 => (intro w hSw; (try dsimp only at hSw); go_simp; try with_reducible rfl)
                      try simp only [Act.put, List.setIfInBounds_toArray, List.set_cons_zero, List.set_cons_succ]
                      refine wpAnyH_take (i := 24) (oi := _) (v := ?v30117) (by simp only [List.getElem?_toArray, List.getElem?_cons_succ, List.getElem?_cons_zero]; rfl) (by kernel_rfl) (by kernel_rfl) (by kernel_rfl) (by exact fun _ _ _ h => h) (Or.inl ⟨by rfl, ?hy30117⟩) (by assumption) ?rest30117
                      case hy30117 => (intro w hSw; (try dsimp only at hSw); go_simp; try with_reducible rfl)
                      try simp only [Act.put, List.setIfInBounds_toArray, List.set_cons_zero, List.set_cons_succ]
                      refine wpAnyH_take (i := 25) (oi := _) (v := ?v30118) (by simp only [List.getElem?_toArray, List.getElem?_cons_succ, List.getElem?_cons_zero]; rfl) (by kernel_rfl) (by kernel_rfl) (by kernel_rfl) (by exact fun _ _ _ h => h) (Or.inl ⟨by rfl, ?hy30118⟩) (by assumption) ?rest30118
                      case hy30118 => (intro w hSw; (try dsimp only at hSw); go_simp; try with_reducible rfl)
                      try simp only [Act.put, List.setIfInBounds_toArray, List.set_cons_zero, List.set_cons_succ]
                      refine wpAnyH_done (by kernel_rfl) ?_ _
                      as_aux_lemma =>
                      obtain ⟨W2, hW2⟩ : ∃ V, WX.drew = V := ⟨_, rfl⟩
                      rw [hW2]
                      have t2 : LSt wc.heap.size wc W2 (.slice A Lq.length c) Lq xs := by rw [← hW2]; exact TX.out.later (Below.refl _ _).drew
                      have k2 : W2.heap[wr.heap.size]? = some (.cells #[.int .i64 4, .int .i64 inn, .string it, .slice iA ia ic, .slice iA' ia' ic'] 25 (0, 0)) := by rw [← hW2]; exact KX.out
                      have t3 := t2.later ((Below.refl W2.heap.size W2).alloc (Nat.le_refl _) (.cells #[.int .i64 4, .int .i64 inn, .string it, .slice iA ia ic, .slice iA' ia' ic'] 25))
                      obtain ⟨⟨z0, z1, z2, z3, z4⟩, -⟩ := box_of k2
                      obtain ⟨⟨e0, e1, e2, e3, e4⟩, -⟩ := box_of t2.var
                      obtain ⟨j0, hI0, hz0, hz1, hz2⟩ := info_parts Tryd.infoValR
                      have hqb : Lq.length ≤ 64 := by have := HLQ.out; have := HJ64.out rfl; omega
                      have T3 := Lib.hid t3
                      have hs3 := t2.size
                      clear q2 q3 q5 q6 q7 q8 y0 y1 y2 y3 y4 c5 t2 t3 k2 hW2
                      iterate 13 go_step
                      refine wpList_build_run rfl _ _ rfl _ _ (by go_simp) (build_one 4 inn it iA ia ic iA' ia' ic' W2) ?_
                      as_aux_lemma =>
                      go_wp2_with (at_builtin; refine wpList_append_own_at _ rfl (.tmp 191) (.tmp 193) 22 rfl (wc.heap.size + 1) 25 j0 _ 5 80 Tryd.underlying22 hI0 hz0 hz1 hz2 rfl (by decide) (.slice A Lq.length c) Lq.length xs (by go_simp) T3.out.rowL ⟨W2.heap.size, 0, none⟩ 1 1 [.int .i64 4, .int .i64 inn, .string it, .slice iA ia ic, .slice iA' ia' ic'] (by go_simp) rfl (new_cells W2 #[.int .i64 4, .int .i64 inn, .string it, .slice iA ia ic, .slice iA' ia' ic'] 25) (by intro u hu; simp at hu; rcases hu with rfl | rfl | rfl | rfl | rfl <;> rfl) (by unfold maxLen; omega) (by omega) (by simp; omega) ?_; intro v5 w5 hown hgrow hnil hat; obtain ⟨A5, c5, rfl⟩ := own_form hown; refine Hid.out ?_)
                      obtain ⟨⟨p0, p1, p2, p3, p4⟩, q0, q1, q2, q3, q4⟩ := box_of (T3.out.varL hgrow)
                      have g6 := T3.out.item x (HVS.out (by trivial) _ (W2.heap.size + 1) (W2.heap.size + 1)) (by omega) (by simp) (fun g hg h => by omega) hown hgrow hat
                      have G6 := Lib.hid g6
                      clear g6 hown hgrow hnil hat p0 p1 p2 p4 q0 q1 q2 q4 e0 e1 e2 e3 e4 z0 z1 z2 z3 z4
                      refine Lib.hid ?_
                      as_aux_lemma =>
                      iterate 6 go_step
                      obtain ⟨w6, hw6⟩ : ∃ w6, w5.setCell ⟨wc.heap.size, 3, none⟩ (.slice A5 (Lq.length + 1) c5) = w6 := ⟨_, rfl⟩
                      have g6 := G6.out
                      rw [hw6] at g6 ⊢
                      have G7 := Lib.hid g6
                      clear g6 G6 hw6 p3 q3
                      as_aux_lemma =>
                      iterate 17 go_step
                      have hln : (Lq ++ [x]).length = Lq.length + 1 := by rw [List.length_append, List.length_singleton]
                      have hrel : Hid (Lq ++ [x] = (if (5 : Int) = 5 then (lj.take (q + 1)).filter (fun x => decide (x.kind = 4) && decide (x.text.take s.length = s)) else []) ∧ (Lq ++ [x]).length ≤ q + 1 ∧ LSt wc.heap.size wc w6 (.slice A5 (Lq ++ [x]).length c5) (Lq ++ [x]) (xs ++ [.int .i64 4, .int .i64 inn, .string it, .slice iA ia ic, .slice iA' ia' ic'])) := Lib.hid ⟨HM.out, by rw [hln]; have := HLQ.out; omega, by rw [hln]; exact G7.out⟩
                      clear hln
                      refine ⟨⟨q + 1, Lq ++ [x], A5, c5, _, ?_, ?_, hrel⟩, ?_⟩
                      · omega
                      · go_num
                      · simp [intOf]; omega
                    -- ONLY END
        · obtain rfl : k = n := by omega
          have hkr : decide ((k : Int) < k) = false := by simp
          have hfo := HFO.out
          rw [List.take_of_length_le (by have := HN.out; omega)] at hfo
          have hout : OutR out k := by
            have := fold_out hF rs emptyO out 0 outR_empty HG.out hfo
            rwa [Nat.zero_add, HN.out] at this
          have hres : some out = R := by
            rw [← HR.out]; unfold runU
            rw [if_pos ⟨HVK.out, hF⟩]; exact hfo.symm
          subst hres
          have hokl : out.keys.length ≤ 9223372036854775807 := by
            obtain ⟨l, ks, rfl, _, h3, _⟩ := hout.form
            show ks.length ≤ _
            have := HN.out; omega
          have hokz : ∀ y ∈ out.keys, y.length ≤ 9223372036854775807 := by
            obtain ⟨l, ks, rfl, _, _, _, _, h6⟩ := hout.form
            intro y hy
            have h7 := (h6 y hy).1
            unfold nameR at h7
            simp only [Bool.and_eq_true, decide_eq_true_eq] at h7
            omega
          have S1 := S0.out
          have bb : wr.heap[w.heap.size + 1 + 1]? = some (.cells #[.int .i64 6, .int .i64 0, .string ⟨#[]⟩, .slice Ad out.list.length cd, .slice Ad' out.keys.length cd'] 25 (0, 0)) := S1.b2
          clear p0 p1 p2 p3 p4
          obtain ⟨⟨r0, r1, r2, r3, r4⟩, -⟩ := box_of bb
          obtain ⟨⟨p0, p1, p2, p3, p4⟩, q0, q1, q2, q3, q4⟩ := box_of S1.b1
          have hzb := set5_here (o := 0) (c0 := .int .i64 6) (c1 := .int .i64 0) (c2 := .string ⟨#[]⟩) (c3 := .slice Ad out.list.length cd) (c4 := .slice Ad' out.keys.length cd') S1.b1
          obtain ⟨wf, hwf⟩ : ∃ wf, wf = set5 wr (w.heap.size + 1) 0 (.int .i64 6) (.int .i64 0) (.string ⟨#[]⟩) (.slice Ad out.list.length cd) (.slice Ad' out.keys.length cd') := ⟨_, rfl⟩
          have hbf : Below w.heap.size w wf := by rw [hwf]; exact S1.low.trans (set5_below (by omega))
          have hov : VIs wf 0 wf.heap.size out [.int .i64 6, .int .i64 0, .string ⟨#[]⟩, .slice Ad out.list.length cd, .slice Ad' out.keys.length cd'] := by
            have hk2 : OutIs wf w.heap.size (w.heap.size + 3) out _ := S1.obj.keep (fun p hp => by rw [hwf]; exact World.cell?_of_block (w := wr) (set5_there (by rcases hp with hp | hp <;> omega))) (by rw [hwf, set5_size]; exact Nat.le_refl _)
            exact hk2.is hbf.size hokl hokz
          rw [← hwf] at hzb
          obtain ⟨⟨y0, y1, y2, y3, y4⟩, -⟩ := box_of (by simpa using hzb)
          have HBF := Lib.hid hbf; have HWF := Lib.hid hwf; have HOV := Lib.hid hov
          clear hbf hwf hzb hov S1 bb hfo hout hokl hokz
          go_wp2_with fail
          change bodyPost _ _ _ _ _ (set5 wr (w.heap.size + 1) 0 (.int .i64 6) (.int .i64 0) (.string ⟨#[]⟩) (.slice Ad out.list.length cd) (.slice Ad' out.keys.length cd'))
          rw [← HWF.out]
          refine bodyPost_ret (v := .tuple #[.agg #[.int .i64 6, .int .i64 0, .string ⟨#[]⟩, .slice Ad out.list.length cd, .slice Ad' out.keys.length cd'], .bool true]) (by simp [results, Tryd.results13, go_sem, y0, y1, y2, y3, y4]) rfl ?_
          exact ⟨⟨_, _, _, _, _, _, _, _, _, rfl, HOV.out⟩, HBF.out⟩
  · obtain rfl := HNO.out (.inl hk)
    have d1 : (vk != 6) = true := by simpa using hk
    have ST := runAt_start w (.int .i64 vk) (.int .i64 vn) (.string VT) (.slice Ac vl cc) (.slice Ac' vs cc')
    obtain ⟨W3, hW3⟩ : ∃ W3, ((w.alloc (.cells #[.int .i64 vk, .int .i64 vn, .string VT, .slice Ac vl cc, .slice Ac' vs cc'] 25)).alloc (.cells #[.int .i64 0, .int .i64 0, .string ⟨#[]⟩, .slice none 0 0, .slice none 0 0] 25)).alloc (.cells #[.int .i64 6, .int .i64 0, .string ⟨#[]⟩, .slice none 0 0, .slice none 0 0] 25) = W3 := ⟨_, rfl⟩
    rw [hW3] at ST
    have HST := Lib.hid ST; have HW3 := Lib.hid hW3
    obtain ⟨⟨y0, y1, y2, y3, y4⟩, -⟩ := box_of ST.b1
    clear ST hW3 HNO
    go_enter Tryd.func13, Tryd.ntmps13
    go_wp2_with fail
    rw [HW3.out]
    refine bodyPost_ret (v := .tuple #[.agg #[.int .i64 0, .int .i64 0, .string ⟨#[]⟩, .slice none 0 0, .slice none 0 0], .bool false]) (by simp [results, Tryd.results13, go_sem, y0, y1, y2, y3, y4]) rfl ?_
    exact run_none HST.out.low
end Go.Proofs.YtobicmpgfiddhaaDoor
