/- Texts merged by program, in build order: JsonRValue. -/
import Derived.Test.YtcbajbpdgmmaeaaDoorC15
namespace Go.Proofs.YtcbajbpdgmmaeaaDoor
open Go.RowKit
set_option linter.unusedVariables false
set_option linter.unusedSimpArgs false

/-- does a text begin so -/
def bgB (S T : ByteArray) : Bool := beginsB S.data.toList T.data.toList
theorem begins_q (S T : ByteArray) (w : World) : Calls Tryd.prog 48 #[.string S, .string T] w fun e w' => e = .returned (.bool (bgB S T)) ∧ w = w' := refBegins_any S T w
theorem cons_of {s : List UInt8} {c : UInt8} (h : beginsB s [c] = true) : ∃ r, s = c :: r := by
  cases s with
  | nil => cases h
  | cons d r =>
    rw [begins_cons] at h
    exact ⟨r, by rw [eq_of_beq h]⟩
theorem numT_zero (l : List UInt8) (v : Int) (n : Nat) : numT l 0 v n = (v, n) := by cases l <;> rfl
theorem numT_next {l : List UInt8} {n m : Nat} (v : Int) (hn : n < l.length) (hm : n < m) (hd : 48 ≤ l[n].toNat ∧ l[n].toNat ≤ 57) : numT (l.drop n) (m - n) v n = numT (l.drop (n + 1)) (m - (n + 1)) (v * 10 + ((l[n].toNat : Int) - 48)) (n + 1) := by
  rw [List.drop_eq_getElem_cons hn]
  obtain ⟨q, hq⟩ : ∃ q, m - n = q + 1 := ⟨m - n - 1, by omega⟩
  rw [hq, numT, if_pos (by unfold isDigit; simpa using hd), show m - (n + 1) = q by omega]
theorem numT_end {l : List UInt8} {n m : Nat} (v : Int) (h : l.length ≤ n ∨ m ≤ n ∨ ∃ hn : n < l.length, ¬ (48 ≤ l[n].toNat ∧ l[n].toNat ≤ 57)) : numT (l.drop n) (m - n) v n = (v, n) := by
  rcases h with h | h | ⟨hn, h⟩
  · rw [List.drop_eq_nil_of_le h]
    cases m - n <;> rfl
  · rw [show m - n = 0 by omega, numT_zero]
  · rw [List.drop_eq_getElem_cons hn]
    cases m - n with
    | zero => rfl
    | succ q => rw [numT, if_neg (by unfold isDigit; simpa using h)]
set_option maxRecDepth 100000 in
set_option maxHeartbeats 40000000 in
theorem valueT_step (m : Nat) (ih : ∀ f s, f ≤ m → s.length ≤ 4096 → 2 * s.length + 1 ≤ f → ValT f s) (f : Nat) (s : List UInt8) (hf : f ≤ m) (hs : s.length ≤ 4096) (hfs : 2 * s.length + 1 ≤ f + 1) : ValT (f + 1) s := by
  intro w
  obtain ⟨RES, hRES⟩ : ∃ RES, valueT (f + 1) s = RES := ⟨_, rfl⟩
  have hv : RES = if beginsB s nullT then (.mk 1 0 [] [] [], 4) else if beginsB s trueT then (.mk 2 1 [] [] [], 4) else if beginsB s falseT then (.mk 2 0 [] [] [], 5)
    else if beginsB s [34] then (match wordT (s.drop 1) [] 1 with
      | some (t, n) => (.mk 4 0 t [] [], n)
      | none => (.mk 4 0 [] [] [], 0))
    else if beginsB s [91] then manyR f false s
    else if beginsB s [123] then manyR f true s
    else if beginsB s [45] then (match numT (s.drop 1) 17 0 1 with
      | (v, n) => (.mk 3 (-v) [] [] [], n))
    else match numT s 18 0 0 with
      | (v, n) => (.mk 3 v [] [] [], n) := by
    rw [← hRES]
    conv => lhs; unfold valueT
    unfold manyR
    rfl
  rw [hRES]
  obtain ⟨S, hS⟩ : ∃ S : ByteArray, S = ⟨s.toArray⟩ := ⟨_, rfl⟩
  have hbq : ∀ t : List UInt8, beginsB s t = bgB S ⟨t.toArray⟩ := fun t => by rw [hS]; rfl
  rw [hbq, hbq, hbq, hbq, hbq, hbq, hbq] at hv
  rw [← hS]
  have hsz : S.size = s.length := by rw [hS]; show s.toArray.size = _; simp
  have x1 := heap_alloc_last w (.cells #[.int .i64 0, .int .i64 0, .string ⟨#[]⟩, .slice none 0 0, .slice none 0 0] 28)
  have HS := Lib.hid hS; have HSZ := Lib.hid hsz; have IH := Lib.hid ih; have HBQ := Lib.hid hbq
  clear hRES ih hS hsz hbq x1
  change RES = if bgB S ⟨#[110, 117, 108, 108]⟩ then _ else if bgB S ⟨#[116, 114, 117, 101]⟩ then _ else if bgB S ⟨#[102, 97, 108, 115, 101]⟩ then _ else if bgB S ⟨#[34]⟩ then _ else if bgB S ⟨#[91]⟩ then _ else if bgB S ⟨#[123]⟩ then _ else if bgB S ⟨#[45]⟩ then _ else _ at hv
  by_cases q1 : bgB S ⟨#[110, 117, 108, 108]⟩ = true
  · have e : RES = (.mk 1 0 [] [] [], 4) := hv.trans (if_pos q1)
    subst e
    clear hv
    go_enter Tryd.func37, Tryd.ntmps37
    go_wp2_with (go_at_call 48; with_reducible refine (begins_q _ _ _).mono ?_; rintro e1 w1 ⟨rfl, rfl⟩)
    refine bodyPost_ret (v := .tuple #[.agg #[.int .i64 1, .int .i64 0, .string ⟨#[]⟩, .slice none 0 0, .slice none 0 0], .int .i64 4]) (by simp [results, Tryd.results37, go_sem]) rfl ?_
    exact ⟨⟨_, _, _, _, _, _, _, _, _, rfl, VIs.mk (t := []) (l := []) (ks := []) ⟨by simp, by simp, by simp, by simp⟩ (.inl rfl) (.inl rfl)⟩, (Below.refl _ _).alloc (Nat.le_refl _) _⟩
  rw [if_neg q1] at hv
  replace q1 : bgB S ⟨#[110, 117, 108, 108]⟩ = false := by simpa using q1
  by_cases q2 : bgB S ⟨#[116, 114, 117, 101]⟩ = true
  · have e : RES = (.mk 2 1 [] [] [], 4) := hv.trans (if_pos q2)
    subst e
    clear hv
    go_enter Tryd.func37, Tryd.ntmps37
    go_wp2_with (go_at_call 48; with_reducible refine (begins_q _ _ _).mono ?_; rintro e1 w1 ⟨rfl, rfl⟩)
    refine bodyPost_ret (v := .tuple #[.agg #[.int .i64 2, .int .i64 1, .string ⟨#[]⟩, .slice none 0 0, .slice none 0 0], .int .i64 4]) (by simp [results, Tryd.results37, go_sem]) rfl ?_
    exact ⟨⟨_, _, _, _, _, _, _, _, _, rfl, VIs.mk (t := []) (l := []) (ks := []) ⟨by simp, by simp, by simp, by simp⟩ (.inl rfl) (.inl rfl)⟩, (Below.refl _ _).alloc (Nat.le_refl _) _⟩
  rw [if_neg q2] at hv
  replace q2 : bgB S ⟨#[116, 114, 117, 101]⟩ = false := by simpa using q2
  by_cases q3 : bgB S ⟨#[102, 97, 108, 115, 101]⟩ = true
  · have e : RES = (.mk 2 0 [] [] [], 5) := hv.trans (if_pos q3)
    subst e
    clear hv
    go_enter Tryd.func37, Tryd.ntmps37
    go_wp2_with (go_at_call 48; with_reducible refine (begins_q _ _ _).mono ?_; rintro e1 w1 ⟨rfl, rfl⟩)
    refine bodyPost_ret (v := .tuple #[.agg #[.int .i64 2, .int .i64 0, .string ⟨#[]⟩, .slice none 0 0, .slice none 0 0], .int .i64 5]) (by simp [results, Tryd.results37, go_sem]) rfl ?_
    exact ⟨⟨_, _, _, _, _, _, _, _, _, rfl, VIs.mk (t := []) (l := []) (ks := []) ⟨by simp, by simp, by simp, by simp⟩ (.inl rfl) (.inl rfl)⟩, (Below.refl _ _).alloc (Nat.le_refl _) _⟩
  rw [if_neg q3] at hv
  replace q3 : bgB S ⟨#[102, 97, 108, 115, 101]⟩ = false := by simpa using q3
  by_cases q4 : bgB S ⟨#[34]⟩ = true
  · rw [if_pos q4] at hv
    have hwd := fun wq => refWord_says S (by have := HSZ.out; omega) wq
    have hwl : S.data.toList = s := by rw [HS.out]
    have hb : beginsB s [34] = true := (HBQ.out [34]).trans q4
    rw [hwl] at hwd
    obtain ⟨t, j, htj, hw2, htl⟩ : ∃ (t : List UInt8) (j : Nat), RES = (.mk 4 0 t [] [], j) ∧ (∀ wq, Calls Tryd.prog 49 #[.string S] wq fun e w' => e = .returned (.tuple #[.string ⟨t.toArray⟩, .int .i64 (j : Int)]) ∧ Below wq.heap.size wq w') ∧ t.length ≤ 4096 := by
      cases hw : wordT (s.drop 1) [] 1 with
      | none =>
        rw [hw] at hv
        refine ⟨[], 0, hv, fun wq => (hwd wq).mono fun e w' ⟨h1, h2⟩ => ?_, by simp⟩
        rcases h1 with ⟨t2, j2, h3, _⟩ | ⟨_, h3⟩
        · rw [hw] at h3; cases h3
        · exact ⟨h3, h2⟩
      | some z =>
        obtain ⟨t, j⟩ := z
        rw [hw] at hv
        have hwle := wordT_le _ _ _ _ _ _ (Nat.le_refl _) hw
        simp only [List.length_drop, List.length_nil] at hwle
        refine ⟨t, j, hv, fun wq => (hwd wq).mono fun e w' ⟨h1, h2⟩ => ?_, by omega⟩
        rcases h1 with ⟨t2, j2, h3, _, h5⟩ | ⟨h3, _⟩
        · rw [hw] at h3; injection h3 with h3; injection h3 with h6 h7
          subst h6; subst h7; exact ⟨h5, h2⟩
        · rcases h3 with h3 | h3
          · rw [hw] at h3; cases h3
          · rw [hb] at h3; cases h3
    subst htj
    obtain ⟨T, hT⟩ : ∃ T : ByteArray, T = ⟨t.toArray⟩ := ⟨_, rfl⟩
    rw [← hT] at hw2
    have HW := Lib.hid hw2; have HT := Lib.hid hT
    clear hw2 hwd hwl hb hv hT
    go_enter Tryd.func37, Tryd.ntmps37
    go_wp2_with (go_at_call 48; with_reducible refine (begins_q _ _ _).mono ?_; rintro e1 w1 ⟨rfl, rfl⟩)
    refine (HW.out _).mono ?_
    rintro e2 w2 ⟨rfl, hb2⟩
    dsimp only
    have hx := (hb2.block w.heap.size (by simp)).trans (heap_alloc_last w (.cells #[.int .i64 0, .int .i64 0, .string ⟨#[]⟩, .slice none 0 0, .slice none 0 0] 28))
    obtain ⟨⟨p0, p1, p2, p3, p4⟩, q0, q1', q2', q3', q4'⟩ := box_of hx
    have HB := Lib.hid (((Below.refl w.heap.size w).alloc (Nat.le_refl _) (.cells #[.int .i64 0, .int .i64 0, .string ⟨#[]⟩, .slice none 0 0, .slice none 0 0] 28)).trans (hb2.mono (by simp)))
    have HX := Lib.hid hx
    clear hb2 hx
    go_wp2_with fail
    obtain ⟨wf, hwf⟩ : ∃ wf, wf = set5 w2 w.heap.size 0 (.int .i64 4) (.int .i64 0) (.string T) (.slice none 0 0) (.slice none 0 0) := ⟨_, rfl⟩
    change bodyPost _ _ _ _ _ (set5 w2 w.heap.size 0 (.int .i64 4) (.int .i64 0) (.string T) (.slice none 0 0) (.slice none 0 0))
    rw [← hwf]
    have hy : wf.heap[w.heap.size]? = some (.cells #[.int .i64 4, .int .i64 0, .string T, .slice none 0 0, .slice none 0 0] 28 (0, 0)) := by rw [hwf]; exact set5_here HX.out
    have hbf : Below w.heap.size w wf := by rw [hwf]; exact HB.out.trans (set5_below (Nat.le_refl _))
    have hvf : VIs wf w.heap.size wf.heap.size (.mk 4 0 t [] []) [.int .i64 4, .int .i64 0, .string T, .slice none 0 0, .slice none 0 0] := by
      rw [HT.out]
      exact VIs.mk (l := []) (ks := []) ⟨by simp, by simp, by omega, by simp⟩ (.inl rfl) (.inl rfl)
    obtain ⟨⟨z0, z1, z2, z3, z4⟩, -⟩ := box_of hy
    have HBF := Lib.hid hbf; have HVF := Lib.hid hvf
    clear hbf hvf hwf hy p0 p1 p2 p3 p4 q0 q1' q2' q3' q4'
    refine bodyPost_ret (v := .tuple #[.agg #[.int .i64 4, .int .i64 0, .string T, .slice none 0 0, .slice none 0 0], .int .i64 (j : Int)]) (by simp [results, Tryd.results37, go_sem, z0, z1, z2, z3, z4]) rfl ?_
    exact ⟨⟨_, _, _, _, _, _, _, _, _, rfl, HVF.out⟩, HBF.out⟩
  rw [if_neg q4] at hv
  replace q4 : bgB S ⟨#[34]⟩ = false := by simpa using q4
  by_cases q5 : bgB S ⟨#[91]⟩ = true
  · have e : RES = manyR f false s := hv.trans (if_pos q5)
    have hb : beginsB s [91] = true := (HBQ.out [91]).trans q5
    obtain ⟨r0, hr0⟩ := cons_of hb
    have hmn := fun wq => manyList m IH.out f r0 (by omega) (by rw [← hr0]; exact hs) (by rw [hr0] at hfs; simp at hfs; omega) wq
    rw [← hr0, ← e, ← HS.out] at hmn
    have HM := Lib.hid hmn
    clear hmn e hv hr0 hb
    go_enter Tryd.func37, Tryd.ntmps37
    go_wp2_with (go_at_call 48; with_reducible refine (begins_q _ _ _).mono ?_; rintro e1 w1 ⟨rfl, rfl⟩)
    refine (HM.out _).mono ?_
    rintro e2 w2 ⟨⟨k', n', tt, A, a, b, A', a', b', rfl, hx⟩, hb2⟩
    dsimp only
    have hxx := (hb2.block w.heap.size (by simp)).trans (heap_alloc_last w (.cells #[.int .i64 0, .int .i64 0, .string ⟨#[]⟩, .slice none 0 0, .slice none 0 0] 28))
    obtain ⟨⟨p0, p1, p2, p3, p4⟩, q0, q1', q2', q3', q4'⟩ := box_of hxx
    have HB := Lib.hid (((Below.refl w.heap.size w).alloc (Nat.le_refl _) (.cells #[.int .i64 0, .int .i64 0, .string ⟨#[]⟩, .slice none 0 0, .slice none 0 0] 28)).trans (hb2.mono (by simp)))
    have HX := Lib.hid hxx; have HXV := Lib.hid hx
    have hsw := hb2.size
    rw [World.size_alloc] at hsw
    have HSW := Lib.hid hsw
    clear hb2 hxx hx hsw
    go_wp2_with fail
    obtain ⟨wf, hwf⟩ : ∃ wf, wf = set5 w2 w.heap.size 0 (.int .i64 k') (.int .i64 n') (.string tt) (.slice A a b) (.slice A' a' b') := ⟨_, rfl⟩
    change bodyPost _ _ _ _ _ (set5 w2 w.heap.size 0 (.int .i64 k') (.int .i64 n') (.string tt) (.slice A a b) (.slice A' a' b'))
    rw [← hwf]
    have hy : wf.heap[w.heap.size]? = some (.cells #[.int .i64 k', .int .i64 n', .string tt, .slice A a b, .slice A' a' b'] 28 (0, 0)) := by rw [hwf]; exact set5_here HX.out
    have hbf : Below w.heap.size w wf := by rw [hwf]; exact HB.out.trans (set5_below (Nat.le_refl _))
    have hvf : VIs wf w.heap.size wf.heap.size RES.1 [.int .i64 k', .int .i64 n', .string tt, .slice A a b, .slice A' a' b'] := by
      have hsf : wf.heap.size = w2.heap.size := by rw [hwf, set5_size]
      rw [hsf]
      have h := HXV.out
      rw [World.size_alloc] at h
      exact (h.keep2 fun p h1 h2 => World.cell?_of_block (w := w2) (by rw [hwf]; exact set5_there (by omega))).more (by omega) (Nat.le_refl _)
    obtain ⟨⟨z0, z1, z2, z3, z4⟩, -⟩ := box_of hy
    have HBF := Lib.hid hbf; have HVF := Lib.hid hvf
    clear hbf hvf hwf hy p0 p1 p2 p3 p4 q0 q1' q2' q3' q4'
    refine bodyPost_ret (v := .tuple #[.agg #[.int .i64 k', .int .i64 n', .string tt, .slice A a b, .slice A' a' b'], .int .i64 (RES.2 : Int)]) (by simp [results, Tryd.results37, go_sem, z0, z1, z2, z3, z4]) rfl ?_
    exact ⟨⟨_, _, _, _, _, _, _, _, _, rfl, HVF.out⟩, HBF.out⟩
  rw [if_neg q5] at hv
  replace q5 : bgB S ⟨#[91]⟩ = false := by simpa using q5
  by_cases q6 : bgB S ⟨#[123]⟩ = true
  · have e : RES = manyR f true s := hv.trans (if_pos q6)
    have hb : beginsB s [123] = true := (HBQ.out [123]).trans q6
    obtain ⟨r0, hr0⟩ := cons_of hb
    have hmn := fun wq => manyObj m IH.out f r0 (by omega) (by rw [← hr0]; exact hs) (by rw [hr0] at hfs; simp at hfs; omega) wq
    rw [← hr0, ← e, ← HS.out] at hmn
    have HM := Lib.hid hmn
    clear hmn e hv hr0 hb
    go_enter Tryd.func37, Tryd.ntmps37
    go_wp2_with (go_at_call 48; with_reducible refine (begins_q _ _ _).mono ?_; rintro e1 w1 ⟨rfl, rfl⟩)
    refine (HM.out _).mono ?_
    rintro e2 w2 ⟨⟨k', n', tt, A, a, b, A', a', b', rfl, hx⟩, hb2⟩
    dsimp only
    have hxx := (hb2.block w.heap.size (by simp)).trans (heap_alloc_last w (.cells #[.int .i64 0, .int .i64 0, .string ⟨#[]⟩, .slice none 0 0, .slice none 0 0] 28))
    obtain ⟨⟨p0, p1, p2, p3, p4⟩, q0, q1', q2', q3', q4'⟩ := box_of hxx
    have HB := Lib.hid (((Below.refl w.heap.size w).alloc (Nat.le_refl _) (.cells #[.int .i64 0, .int .i64 0, .string ⟨#[]⟩, .slice none 0 0, .slice none 0 0] 28)).trans (hb2.mono (by simp)))
    have HX := Lib.hid hxx; have HXV := Lib.hid hx
    have hsw := hb2.size
    rw [World.size_alloc] at hsw
    have HSW := Lib.hid hsw
    clear hb2 hxx hx hsw
    go_wp2_with fail
    obtain ⟨wf, hwf⟩ : ∃ wf, wf = set5 w2 w.heap.size 0 (.int .i64 k') (.int .i64 n') (.string tt) (.slice A a b) (.slice A' a' b') := ⟨_, rfl⟩
    change bodyPost _ _ _ _ _ (set5 w2 w.heap.size 0 (.int .i64 k') (.int .i64 n') (.string tt) (.slice A a b) (.slice A' a' b'))
    rw [← hwf]
    have hy : wf.heap[w.heap.size]? = some (.cells #[.int .i64 k', .int .i64 n', .string tt, .slice A a b, .slice A' a' b'] 28 (0, 0)) := by rw [hwf]; exact set5_here HX.out
    have hbf : Below w.heap.size w wf := by rw [hwf]; exact HB.out.trans (set5_below (Nat.le_refl _))
    have hvf : VIs wf w.heap.size wf.heap.size RES.1 [.int .i64 k', .int .i64 n', .string tt, .slice A a b, .slice A' a' b'] := by
      have hsf : wf.heap.size = w2.heap.size := by rw [hwf, set5_size]
      rw [hsf]
      have h := HXV.out
      rw [World.size_alloc] at h
      exact (h.keep2 fun p h1 h2 => World.cell?_of_block (w := w2) (by rw [hwf]; exact set5_there (by omega))).more (by omega) (Nat.le_refl _)
    obtain ⟨⟨z0, z1, z2, z3, z4⟩, -⟩ := box_of hy
    have HBF := Lib.hid hbf; have HVF := Lib.hid hvf
    clear hbf hvf hwf hy p0 p1 p2 p3 p4 q0 q1' q2' q3' q4'
    refine bodyPost_ret (v := .tuple #[.agg #[.int .i64 k', .int .i64 n', .string tt, .slice A a b, .slice A' a' b'], .int .i64 (RES.2 : Int)]) (by simp [results, Tryd.results37, go_sem, z0, z1, z2, z3, z4]) rfl ?_
    exact ⟨⟨_, _, _, _, _, _, _, _, _, rfl, HVF.out⟩, HBF.out⟩
  rw [if_neg q6] at hv
  replace q6 : bgB S ⟨#[123]⟩ = false := by simpa using q6
  by_cases q7 : bgB S ⟨#[45]⟩ = true
  · rw [if_pos q7] at hv
    have hb : beginsB s [45] = true := (HBQ.out [45]).trans q7
    have hpos : 1 ≤ S.size := by
      have := begins_len hb
      rw [List.length_singleton] at this
      have := HSZ.out; omega
    clear hb
    have hsl : S.size = s.length := HSZ.out
    have hat : ∀ (i : Nat) (h : i < S.size) (h' : i < s.length), S[i] = s[i] := fun i h h' => by have := HS.out; subst this; rfl
    have HAT := Lib.hid hat
    have HB0 := Lib.hid ((Below.refl w.heap.size w).alloc (Nat.le_refl _) (.cells #[.int .i64 0, .int .i64 0, .string ⟨#[]⟩, .slice none 0 0, .slice none 0 0] 28))
    have HX0 := Lib.hid (heap_alloc_last w (.cells #[.int .i64 0, .int .i64 0, .string ⟨#[]⟩, .slice none 0 0, .slice none 0 0] 28))
    obtain ⟨W1, hW1⟩ : ∃ W1, W1 = w.alloc (.cells #[.int .i64 0, .int .i64 0, .string ⟨#[]⟩, .slice none 0 0, .slice none 0 0] 28) := ⟨_, rfl⟩
    rw [← hW1] at HB0 HX0
    have HV := Lib.hid hv; have HW1 := Lib.hid hW1
    clear hv hat hW1 hsl
    go_enter Tryd.func37, Tryd.ntmps37
    go_wp2_with (go_at_call 48; with_reducible refine (begins_q _ _ _).mono ?_; rintro e1 w1 ⟨rfl, rfl⟩)
    rw [← HW1.out]
    go_loopw [6, 7] (fun i v wr => ∃ n x : Nat, 1 ≤ n ∧ n ≤ S.size ∧ n ≤ 18 ∧ i = .int .i64 n ∧ v = .int .i64 x ∧ x < 10 ^ n ∧ numT (s.drop n) (18 - n) x n = numT (s.drop 1) 17 0 1 ∧ W1 = wr) (fun i _ _ => 18 - (intOf i).toNat)
    case atStart => exact ⟨1, 0, by omega, by omega, by decide, rfl, rfl, by decide, rfl, rfl⟩
    case round =>
      obtain ⟨n, x, hn0, hn1, hn2, rfl, rfl, hx, hN, rfl⟩ := hrel
      have HN := Lib.hid hN
      clear hN
      have hdone : (S.size ≤ n ∨ 18 ≤ n ∨ ∃ hn : n < S.size, ¬ (48 ≤ S[n].toNat ∧ S[n].toNat ≤ 57)) → numT (s.drop 1) 17 0 1 = ((x : Int), n) := fun h => by
        rw [← HN.out]
        refine numT_end _ ?_
        rcases h with h | h | ⟨hn, h⟩
        · exact .inl (by have := HSZ.out; omega)
        · exact .inr (.inl h)
        · exact .inr (.inr ⟨by have := HSZ.out; omega, by rw [← HAT.out n hn (by have := HSZ.out; omega)]; exact h⟩)
      have HD := Lib.hid hdone
      clear hdone
      by_cases hlt : n < S.size
      rotate_left
      · have d1 : decide ((n : Int) < (S.size : Int)) = false := by simp; omega
        skip
        have hfin : numT (s.drop 1) 17 0 1 = ((x : Int), n) := HD.out (.inl (by omega))
        have HF := Lib.hid hfin
        have hxb := Nat.lt_of_lt_of_le hx (Nat.pow_le_pow_right (by decide) hn2)
        obtain ⟨⟨p0, p1, p2, p3, p4⟩, q0, q1', q2', q3', q4'⟩ := box_of HX0.out
        have hpv : 10 ^ 18 = 1000000000000000000 := by decide
        rw [hpv] at hxb
        have hxi : (x : Int) < 1000000000000000000 := by omega
        clear HD hfin hx hxb hpv
        go_wp2_with (go_at_call 48; with_reducible refine (begins_q _ _ _).mono ?_; rintro e1 w1 ⟨rfl, rfl⟩)
        obtain ⟨wf, hwf⟩ : ∃ wf, wf = set5 W1 w.heap.size 0 (.int .i64 3) (.int .i64 (-(x : Int))) (.string ⟨#[]⟩) (.slice none 0 0) (.slice none 0 0) := ⟨_, rfl⟩
        change bodyPost _ _ _ _ _ (set5 W1 w.heap.size 0 (.int .i64 3) (.int .i64 (-(x : Int))) (.string ⟨#[]⟩) (.slice none 0 0) (.slice none 0 0))
        rw [← hwf]
        have hy : wf.heap[w.heap.size]? = some (.cells #[.int .i64 3, .int .i64 (-(x : Int)), .string ⟨#[]⟩, .slice none 0 0, .slice none 0 0] 28 (0, 0)) := by rw [hwf]; exact set5_here HX0.out
        have hbf : Below w.heap.size w wf := by rw [hwf]; exact HB0.out.trans (set5_below (Nat.le_refl _))
        obtain ⟨⟨z0, z1, z2, z3, z4⟩, -⟩ := box_of hy
        have HBF := Lib.hid hbf
        have e : RES = (.mk 3 (-(x : Int)) [] [] [], n) := HV.out.trans (by rw [HF.out])
        subst e
        clear hbf hwf hy p0 p1 p2 p3 p4 q0 q1' q2' q3' q4'
        refine bodyPost_ret (v := .tuple #[.agg #[.int .i64 3, .int .i64 (-(x : Int)), .string ⟨#[]⟩, .slice none 0 0, .slice none 0 0], .int .i64 (n : Int)]) (by simp [results, Tryd.results37, go_sem, z0, z1, z2, z3, z4]) rfl ?_
        exact ⟨⟨_, _, _, _, _, _, _, _, _, rfl, VIs.mk (t := []) (l := []) (ks := []) ⟨by simp, by simp, by simp, by simp⟩ (.inl rfl) (.inl rfl)⟩, HBF.out⟩
      · by_cases h48 : 48 ≤ S[n].toNat
        rotate_left
        · have d2 : decide ((48 : Int) ≤ (S[n].toNat : Int)) = false := by simp; omega
          skip
          have hfin : numT (s.drop 1) 17 0 1 = ((x : Int), n) := HD.out (.inr (.inr ⟨hlt, fun h => h48 h.1⟩))
          have HF := Lib.hid hfin
          have hxb := Nat.lt_of_lt_of_le hx (Nat.pow_le_pow_right (by decide) hn2)
          obtain ⟨⟨p0, p1, p2, p3, p4⟩, q0, q1', q2', q3', q4'⟩ := box_of HX0.out
          have hpv : 10 ^ 18 = 1000000000000000000 := by decide
          rw [hpv] at hxb
          have hxi : (x : Int) < 1000000000000000000 := by omega
          clear HD hfin hx hxb hpv
          go_wp2_with (go_at_call 48; with_reducible refine (begins_q _ _ _).mono ?_; rintro e1 w1 ⟨rfl, rfl⟩)
          obtain ⟨wf, hwf⟩ : ∃ wf, wf = set5 W1 w.heap.size 0 (.int .i64 3) (.int .i64 (-(x : Int))) (.string ⟨#[]⟩) (.slice none 0 0) (.slice none 0 0) := ⟨_, rfl⟩
          change bodyPost _ _ _ _ _ (set5 W1 w.heap.size 0 (.int .i64 3) (.int .i64 (-(x : Int))) (.string ⟨#[]⟩) (.slice none 0 0) (.slice none 0 0))
          rw [← hwf]
          have hy : wf.heap[w.heap.size]? = some (.cells #[.int .i64 3, .int .i64 (-(x : Int)), .string ⟨#[]⟩, .slice none 0 0, .slice none 0 0] 28 (0, 0)) := by rw [hwf]; exact set5_here HX0.out
          have hbf : Below w.heap.size w wf := by rw [hwf]; exact HB0.out.trans (set5_below (Nat.le_refl _))
          obtain ⟨⟨z0, z1, z2, z3, z4⟩, -⟩ := box_of hy
          have HBF := Lib.hid hbf
          have e : RES = (.mk 3 (-(x : Int)) [] [] [], n) := HV.out.trans (by rw [HF.out])
          subst e
          clear hbf hwf hy p0 p1 p2 p3 p4 q0 q1' q2' q3' q4'
          refine bodyPost_ret (v := .tuple #[.agg #[.int .i64 3, .int .i64 (-(x : Int)), .string ⟨#[]⟩, .slice none 0 0, .slice none 0 0], .int .i64 (n : Int)]) (by simp [results, Tryd.results37, go_sem, z0, z1, z2, z3, z4]) rfl ?_
          exact ⟨⟨_, _, _, _, _, _, _, _, _, rfl, VIs.mk (t := []) (l := []) (ks := []) ⟨by simp, by simp, by simp, by simp⟩ (.inl rfl) (.inl rfl)⟩, HBF.out⟩
        · have d2 : decide ((48 : Int) ≤ (S[n].toNat : Int)) = true := by simp; omega
          by_cases h57 : S[n].toNat ≤ 57
          rotate_left
          · have d3 : decide ((S[n].toNat : Int) ≤ 57) = false := by simp; omega
            skip
            have hfin : numT (s.drop 1) 17 0 1 = ((x : Int), n) := HD.out (.inr (.inr ⟨hlt, fun h => h57 h.2⟩))
            have HF := Lib.hid hfin
            have hxb := Nat.lt_of_lt_of_le hx (Nat.pow_le_pow_right (by decide) hn2)
            obtain ⟨⟨p0, p1, p2, p3, p4⟩, q0, q1', q2', q3', q4'⟩ := box_of HX0.out
            have hpv : 10 ^ 18 = 1000000000000000000 := by decide
            rw [hpv] at hxb
            have hxi : (x : Int) < 1000000000000000000 := by omega
            clear HD hfin hx hxb hpv
            go_wp2_with (go_at_call 48; with_reducible refine (begins_q _ _ _).mono ?_; rintro e1 w1 ⟨rfl, rfl⟩)
            obtain ⟨wf, hwf⟩ : ∃ wf, wf = set5 W1 w.heap.size 0 (.int .i64 3) (.int .i64 (-(x : Int))) (.string ⟨#[]⟩) (.slice none 0 0) (.slice none 0 0) := ⟨_, rfl⟩
            change bodyPost _ _ _ _ _ (set5 W1 w.heap.size 0 (.int .i64 3) (.int .i64 (-(x : Int))) (.string ⟨#[]⟩) (.slice none 0 0) (.slice none 0 0))
            rw [← hwf]
            have hy : wf.heap[w.heap.size]? = some (.cells #[.int .i64 3, .int .i64 (-(x : Int)), .string ⟨#[]⟩, .slice none 0 0, .slice none 0 0] 28 (0, 0)) := by rw [hwf]; exact set5_here HX0.out
            have hbf : Below w.heap.size w wf := by rw [hwf]; exact HB0.out.trans (set5_below (Nat.le_refl _))
            obtain ⟨⟨z0, z1, z2, z3, z4⟩, -⟩ := box_of hy
            have HBF := Lib.hid hbf
            have e : RES = (.mk 3 (-(x : Int)) [] [] [], n) := HV.out.trans (by rw [HF.out])
            subst e
            clear hbf hwf hy p0 p1 p2 p3 p4 q0 q1' q2' q3' q4'
            refine bodyPost_ret (v := .tuple #[.agg #[.int .i64 3, .int .i64 (-(x : Int)), .string ⟨#[]⟩, .slice none 0 0, .slice none 0 0], .int .i64 (n : Int)]) (by simp [results, Tryd.results37, go_sem, z0, z1, z2, z3, z4]) rfl ?_
            exact ⟨⟨_, _, _, _, _, _, _, _, _, rfl, VIs.mk (t := []) (l := []) (ks := []) ⟨by simp, by simp, by simp, by simp⟩ (.inl rfl) (.inl rfl)⟩, HBF.out⟩
          · have d3 : decide ((S[n].toNat : Int) ≤ 57) = true := by simp; omega
            by_cases h18 : n < 18
            rotate_left
            · have d4 : decide ((n : Int) < 18) = false := by simp; omega
              skip
              have hfin : numT (s.drop 1) 17 0 1 = ((x : Int), n) := HD.out (.inr (.inl (by omega)))
              have HF := Lib.hid hfin
              have hxb := Nat.lt_of_lt_of_le hx (Nat.pow_le_pow_right (by decide) hn2)
              obtain ⟨⟨p0, p1, p2, p3, p4⟩, q0, q1', q2', q3', q4'⟩ := box_of HX0.out
              have hpv : 10 ^ 18 = 1000000000000000000 := by decide
              rw [hpv] at hxb
              have hxi : (x : Int) < 1000000000000000000 := by omega
              clear HD hfin hx hxb hpv
              go_wp2_with (go_at_call 48; with_reducible refine (begins_q _ _ _).mono ?_; rintro e1 w1 ⟨rfl, rfl⟩)
              obtain ⟨wf, hwf⟩ : ∃ wf, wf = set5 W1 w.heap.size 0 (.int .i64 3) (.int .i64 (-(x : Int))) (.string ⟨#[]⟩) (.slice none 0 0) (.slice none 0 0) := ⟨_, rfl⟩
              change bodyPost _ _ _ _ _ (set5 W1 w.heap.size 0 (.int .i64 3) (.int .i64 (-(x : Int))) (.string ⟨#[]⟩) (.slice none 0 0) (.slice none 0 0))
              rw [← hwf]
              have hy : wf.heap[w.heap.size]? = some (.cells #[.int .i64 3, .int .i64 (-(x : Int)), .string ⟨#[]⟩, .slice none 0 0, .slice none 0 0] 28 (0, 0)) := by rw [hwf]; exact set5_here HX0.out
              have hbf : Below w.heap.size w wf := by rw [hwf]; exact HB0.out.trans (set5_below (Nat.le_refl _))
              obtain ⟨⟨z0, z1, z2, z3, z4⟩, -⟩ := box_of hy
              have HBF := Lib.hid hbf
              have e : RES = (.mk 3 (-(x : Int)) [] [] [], n) := HV.out.trans (by rw [HF.out])
              subst e
              clear hbf hwf hy p0 p1 p2 p3 p4 q0 q1' q2' q3' q4'
              refine bodyPost_ret (v := .tuple #[.agg #[.int .i64 3, .int .i64 (-(x : Int)), .string ⟨#[]⟩, .slice none 0 0, .slice none 0 0], .int .i64 (n : Int)]) (by simp [results, Tryd.results37, go_sem, z0, z1, z2, z3, z4]) rfl ?_
              exact ⟨⟨_, _, _, _, _, _, _, _, _, rfl, VIs.mk (t := []) (l := []) (ks := []) ⟨by simp, by simp, by simp, by simp⟩ (.inl rfl) (.inl rfl)⟩, HBF.out⟩
            · have d4 : decide ((n : Int) < 18) = true := by simp; omega
              have hnx : numT (s.drop (n + 1)) (18 - (n + 1)) ((x : Int) * 10 + ((S[n].toNat : Int) - 48)) (n + 1) = numT (s.drop 1) 17 0 1 := by
                rw [← HN.out, HAT.out n hlt (by have := HSZ.out; omega)]
                exact (numT_next (l := s) (m := 18) _ (by have := HSZ.out; omega) h18 (by rw [← HAT.out n hlt (by have := HSZ.out; omega)]; exact ⟨h48, h57⟩)).symm
              have hp : 10 ^ (n + 1) = 10 ^ n * 10 := Nat.pow_succ 10 n
              have hpb : 10 ^ n ≤ 100000000000000000 := Nat.le_trans (Nat.pow_le_pow_right (by decide) (by omega : n ≤ 17)) (by decide)
              have hx10 : x * 10 + (S[n].toNat - 48) < 10 ^ (n + 1) := by rw [hp]; omega
              obtain ⟨y, hy⟩ : ∃ y : Nat, x * 10 + (S[n].toNat - 48) = y := ⟨_, rfl⟩
              have hyi : (x : Int) * 10 + ((S[n].toNat : Int) - 48) = (y : Int) := by omega
              rw [hyi] at hnx
              rw [hy] at hx10
              have hxs : (x : Int) < 100000000000000000 := by omega
              have hds : IntKind.u8.wrap ((S[n].toNat : Int) - 48) = (S[n].toNat : Int) - 48 := by rw [IntKind.wrap_u8]; omega
              have HNX := Lib.hid hnx; have HX10 := Lib.hid hx10; have HYI := Lib.hid hyi
              clear hnx hx10 hp hpb HN HD hy hyi hx
              go_wp2_with fail
              have hfx : (Value.int .i64 ((x : Int) * 10 + ((S[n].toNat : Int) - 48))) = .int .i64 (y : Int) := by rw [HYI.out]
              exact ⟨⟨n + 1, y, by omega, by omega, by omega, by go_num, hfx, HX10.out, HNX.out, trivial⟩, by simp [intOf]; omega⟩
  · rw [if_neg q7] at hv
    replace q7 : bgB S ⟨#[45]⟩ = false := by simpa using q7
    have hsl : S.size = s.length := HSZ.out
    have hat : ∀ (i : Nat) (h : i < S.size) (h' : i < s.length), S[i] = s[i] := fun i h h' => by have := HS.out; subst this; rfl
    have HAT := Lib.hid hat
    have HB0 := Lib.hid ((Below.refl w.heap.size w).alloc (Nat.le_refl _) (.cells #[.int .i64 0, .int .i64 0, .string ⟨#[]⟩, .slice none 0 0, .slice none 0 0] 28))
    have HX0 := Lib.hid (heap_alloc_last w (.cells #[.int .i64 0, .int .i64 0, .string ⟨#[]⟩, .slice none 0 0, .slice none 0 0] 28))
    obtain ⟨W1, hW1⟩ : ∃ W1, W1 = w.alloc (.cells #[.int .i64 0, .int .i64 0, .string ⟨#[]⟩, .slice none 0 0, .slice none 0 0] 28) := ⟨_, rfl⟩
    rw [← hW1] at HB0 HX0
    have HV := Lib.hid hv; have HW1 := Lib.hid hW1
    clear hv hat hW1 hsl
    go_enter Tryd.func37, Tryd.ntmps37
    go_wp2_with (go_at_call 48; with_reducible refine (begins_q _ _ _).mono ?_; rintro e1 w1 ⟨rfl, rfl⟩)
    rw [← HW1.out]
    go_loopw [6, 7] (fun i v wr => ∃ n x : Nat,  n ≤ S.size ∧ n ≤ 18 ∧ i = .int .i64 n ∧ v = .int .i64 x ∧ x < 10 ^ n ∧ numT (s.drop n) (18 - n) x n = numT (s.drop 0) 18 0 0 ∧ W1 = wr) (fun i _ _ => 18 - (intOf i).toNat)
    case atStart => exact ⟨0, 0, by omega, by decide, rfl, rfl, by decide, rfl, rfl⟩
    case round =>
      obtain ⟨n, x, hn1, hn2, rfl, rfl, hx, hN, rfl⟩ := hrel
      have HN := Lib.hid hN
      clear hN
      have hdone : (S.size ≤ n ∨ 18 ≤ n ∨ ∃ hn : n < S.size, ¬ (48 ≤ S[n].toNat ∧ S[n].toNat ≤ 57)) → numT (s.drop 0) 18 0 0 = ((x : Int), n) := fun h => by
        rw [← HN.out]
        refine numT_end _ ?_
        rcases h with h | h | ⟨hn, h⟩
        · exact .inl (by have := HSZ.out; omega)
        · exact .inr (.inl h)
        · exact .inr (.inr ⟨by have := HSZ.out; omega, by rw [← HAT.out n hn (by have := HSZ.out; omega)]; exact h⟩)
      have HD := Lib.hid hdone
      clear hdone
      by_cases hlt : n < S.size
      rotate_left
      · have d1 : decide ((n : Int) < (S.size : Int)) = false := by simp; omega
        skip
        have hfin : numT s 18 0 0 = ((x : Int), n) := HD.out (.inl (by omega))
        have HF := Lib.hid hfin
        have hxb := Nat.lt_of_lt_of_le hx (Nat.pow_le_pow_right (by decide) hn2)
        obtain ⟨⟨p0, p1, p2, p3, p4⟩, q0, q1', q2', q3', q4'⟩ := box_of HX0.out
        have hpv : 10 ^ 18 = 1000000000000000000 := by decide
        rw [hpv] at hxb
        have hxi : (x : Int) < 1000000000000000000 := by omega
        clear HD hfin hx hxb hpv
        go_wp2_with (go_at_call 48; with_reducible refine (begins_q _ _ _).mono ?_; rintro e1 w1 ⟨rfl, rfl⟩)
        obtain ⟨wf, hwf⟩ : ∃ wf, wf = set5 W1 w.heap.size 0 (.int .i64 3) (.int .i64 (x : Int)) (.string ⟨#[]⟩) (.slice none 0 0) (.slice none 0 0) := ⟨_, rfl⟩
        change bodyPost _ _ _ _ _ (set5 W1 w.heap.size 0 (.int .i64 3) (.int .i64 (x : Int)) (.string ⟨#[]⟩) (.slice none 0 0) (.slice none 0 0))
        rw [← hwf]
        have hy : wf.heap[w.heap.size]? = some (.cells #[.int .i64 3, .int .i64 (x : Int), .string ⟨#[]⟩, .slice none 0 0, .slice none 0 0] 28 (0, 0)) := by rw [hwf]; exact set5_here HX0.out
        have hbf : Below w.heap.size w wf := by rw [hwf]; exact HB0.out.trans (set5_below (Nat.le_refl _))
        obtain ⟨⟨z0, z1, z2, z3, z4⟩, -⟩ := box_of hy
        have HBF := Lib.hid hbf
        have e : RES = (.mk 3 (x : Int) [] [] [], n) := HV.out.trans (by rw [HF.out])
        subst e
        clear hbf hwf hy p0 p1 p2 p3 p4 q0 q1' q2' q3' q4'
        refine bodyPost_ret (v := .tuple #[.agg #[.int .i64 3, .int .i64 (x : Int), .string ⟨#[]⟩, .slice none 0 0, .slice none 0 0], .int .i64 (n : Int)]) (by simp [results, Tryd.results37, go_sem, z0, z1, z2, z3, z4]) rfl ?_
        exact ⟨⟨_, _, _, _, _, _, _, _, _, rfl, VIs.mk (t := []) (l := []) (ks := []) ⟨by simp, by simp, by simp, by simp⟩ (.inl rfl) (.inl rfl)⟩, HBF.out⟩
      · by_cases h48 : 48 ≤ S[n].toNat
        rotate_left
        · have d2 : decide ((48 : Int) ≤ (S[n].toNat : Int)) = false := by simp; omega
          skip
          have hfin : numT s 18 0 0 = ((x : Int), n) := HD.out (.inr (.inr ⟨hlt, fun h => h48 h.1⟩))
          have HF := Lib.hid hfin
          have hxb := Nat.lt_of_lt_of_le hx (Nat.pow_le_pow_right (by decide) hn2)
          obtain ⟨⟨p0, p1, p2, p3, p4⟩, q0, q1', q2', q3', q4'⟩ := box_of HX0.out
          have hpv : 10 ^ 18 = 1000000000000000000 := by decide
          rw [hpv] at hxb
          have hxi : (x : Int) < 1000000000000000000 := by omega
          clear HD hfin hx hxb hpv
          go_wp2_with (go_at_call 48; with_reducible refine (begins_q _ _ _).mono ?_; rintro e1 w1 ⟨rfl, rfl⟩)
          obtain ⟨wf, hwf⟩ : ∃ wf, wf = set5 W1 w.heap.size 0 (.int .i64 3) (.int .i64 (x : Int)) (.string ⟨#[]⟩) (.slice none 0 0) (.slice none 0 0) := ⟨_, rfl⟩
          change bodyPost _ _ _ _ _ (set5 W1 w.heap.size 0 (.int .i64 3) (.int .i64 (x : Int)) (.string ⟨#[]⟩) (.slice none 0 0) (.slice none 0 0))
          rw [← hwf]
          have hy : wf.heap[w.heap.size]? = some (.cells #[.int .i64 3, .int .i64 (x : Int), .string ⟨#[]⟩, .slice none 0 0, .slice none 0 0] 28 (0, 0)) := by rw [hwf]; exact set5_here HX0.out
          have hbf : Below w.heap.size w wf := by rw [hwf]; exact HB0.out.trans (set5_below (Nat.le_refl _))
          obtain ⟨⟨z0, z1, z2, z3, z4⟩, -⟩ := box_of hy
          have HBF := Lib.hid hbf
          have e : RES = (.mk 3 (x : Int) [] [] [], n) := HV.out.trans (by rw [HF.out])
          subst e
          clear hbf hwf hy p0 p1 p2 p3 p4 q0 q1' q2' q3' q4'
          refine bodyPost_ret (v := .tuple #[.agg #[.int .i64 3, .int .i64 (x : Int), .string ⟨#[]⟩, .slice none 0 0, .slice none 0 0], .int .i64 (n : Int)]) (by simp [results, Tryd.results37, go_sem, z0, z1, z2, z3, z4]) rfl ?_
          exact ⟨⟨_, _, _, _, _, _, _, _, _, rfl, VIs.mk (t := []) (l := []) (ks := []) ⟨by simp, by simp, by simp, by simp⟩ (.inl rfl) (.inl rfl)⟩, HBF.out⟩
        · have d2 : decide ((48 : Int) ≤ (S[n].toNat : Int)) = true := by simp; omega
          by_cases h57 : S[n].toNat ≤ 57
          rotate_left
          · have d3 : decide ((S[n].toNat : Int) ≤ 57) = false := by simp; omega
            skip
            have hfin : numT s 18 0 0 = ((x : Int), n) := HD.out (.inr (.inr ⟨hlt, fun h => h57 h.2⟩))
            have HF := Lib.hid hfin
            have hxb := Nat.lt_of_lt_of_le hx (Nat.pow_le_pow_right (by decide) hn2)
            obtain ⟨⟨p0, p1, p2, p3, p4⟩, q0, q1', q2', q3', q4'⟩ := box_of HX0.out
            have hpv : 10 ^ 18 = 1000000000000000000 := by decide
            rw [hpv] at hxb
            have hxi : (x : Int) < 1000000000000000000 := by omega
            clear HD hfin hx hxb hpv
            go_wp2_with (go_at_call 48; with_reducible refine (begins_q _ _ _).mono ?_; rintro e1 w1 ⟨rfl, rfl⟩)
            obtain ⟨wf, hwf⟩ : ∃ wf, wf = set5 W1 w.heap.size 0 (.int .i64 3) (.int .i64 (x : Int)) (.string ⟨#[]⟩) (.slice none 0 0) (.slice none 0 0) := ⟨_, rfl⟩
            change bodyPost _ _ _ _ _ (set5 W1 w.heap.size 0 (.int .i64 3) (.int .i64 (x : Int)) (.string ⟨#[]⟩) (.slice none 0 0) (.slice none 0 0))
            rw [← hwf]
            have hy : wf.heap[w.heap.size]? = some (.cells #[.int .i64 3, .int .i64 (x : Int), .string ⟨#[]⟩, .slice none 0 0, .slice none 0 0] 28 (0, 0)) := by rw [hwf]; exact set5_here HX0.out
            have hbf : Below w.heap.size w wf := by rw [hwf]; exact HB0.out.trans (set5_below (Nat.le_refl _))
            obtain ⟨⟨z0, z1, z2, z3, z4⟩, -⟩ := box_of hy
            have HBF := Lib.hid hbf
            have e : RES = (.mk 3 (x : Int) [] [] [], n) := HV.out.trans (by rw [HF.out])
            subst e
            clear hbf hwf hy p0 p1 p2 p3 p4 q0 q1' q2' q3' q4'
            refine bodyPost_ret (v := .tuple #[.agg #[.int .i64 3, .int .i64 (x : Int), .string ⟨#[]⟩, .slice none 0 0, .slice none 0 0], .int .i64 (n : Int)]) (by simp [results, Tryd.results37, go_sem, z0, z1, z2, z3, z4]) rfl ?_
            exact ⟨⟨_, _, _, _, _, _, _, _, _, rfl, VIs.mk (t := []) (l := []) (ks := []) ⟨by simp, by simp, by simp, by simp⟩ (.inl rfl) (.inl rfl)⟩, HBF.out⟩
          · have d3 : decide ((S[n].toNat : Int) ≤ 57) = true := by simp; omega
            by_cases h18 : n < 18
            rotate_left
            · have d4 : decide ((n : Int) < 18) = false := by simp; omega
              skip
              have hfin : numT s 18 0 0 = ((x : Int), n) := HD.out (.inr (.inl (by omega)))
              have HF := Lib.hid hfin
              have hxb := Nat.lt_of_lt_of_le hx (Nat.pow_le_pow_right (by decide) hn2)
              obtain ⟨⟨p0, p1, p2, p3, p4⟩, q0, q1', q2', q3', q4'⟩ := box_of HX0.out
              have hpv : 10 ^ 18 = 1000000000000000000 := by decide
              rw [hpv] at hxb
              have hxi : (x : Int) < 1000000000000000000 := by omega
              clear HD hfin hx hxb hpv
              go_wp2_with (go_at_call 48; with_reducible refine (begins_q _ _ _).mono ?_; rintro e1 w1 ⟨rfl, rfl⟩)
              obtain ⟨wf, hwf⟩ : ∃ wf, wf = set5 W1 w.heap.size 0 (.int .i64 3) (.int .i64 (x : Int)) (.string ⟨#[]⟩) (.slice none 0 0) (.slice none 0 0) := ⟨_, rfl⟩
              change bodyPost _ _ _ _ _ (set5 W1 w.heap.size 0 (.int .i64 3) (.int .i64 (x : Int)) (.string ⟨#[]⟩) (.slice none 0 0) (.slice none 0 0))
              rw [← hwf]
              have hy : wf.heap[w.heap.size]? = some (.cells #[.int .i64 3, .int .i64 (x : Int), .string ⟨#[]⟩, .slice none 0 0, .slice none 0 0] 28 (0, 0)) := by rw [hwf]; exact set5_here HX0.out
              have hbf : Below w.heap.size w wf := by rw [hwf]; exact HB0.out.trans (set5_below (Nat.le_refl _))
              obtain ⟨⟨z0, z1, z2, z3, z4⟩, -⟩ := box_of hy
              have HBF := Lib.hid hbf
              have e : RES = (.mk 3 (x : Int) [] [] [], n) := HV.out.trans (by rw [HF.out])
              subst e
              clear hbf hwf hy p0 p1 p2 p3 p4 q0 q1' q2' q3' q4'
              refine bodyPost_ret (v := .tuple #[.agg #[.int .i64 3, .int .i64 (x : Int), .string ⟨#[]⟩, .slice none 0 0, .slice none 0 0], .int .i64 (n : Int)]) (by simp [results, Tryd.results37, go_sem, z0, z1, z2, z3, z4]) rfl ?_
              exact ⟨⟨_, _, _, _, _, _, _, _, _, rfl, VIs.mk (t := []) (l := []) (ks := []) ⟨by simp, by simp, by simp, by simp⟩ (.inl rfl) (.inl rfl)⟩, HBF.out⟩
            · have d4 : decide ((n : Int) < 18) = true := by simp; omega
              have hnx : numT (s.drop (n + 1)) (18 - (n + 1)) ((x : Int) * 10 + ((S[n].toNat : Int) - 48)) (n + 1) = numT (s.drop 0) 18 0 0 := by
                rw [← HN.out, HAT.out n hlt (by have := HSZ.out; omega)]
                exact (numT_next (l := s) (m := 18) _ (by have := HSZ.out; omega) h18 (by rw [← HAT.out n hlt (by have := HSZ.out; omega)]; exact ⟨h48, h57⟩)).symm
              have hp : 10 ^ (n + 1) = 10 ^ n * 10 := Nat.pow_succ 10 n
              have hpb : 10 ^ n ≤ 100000000000000000 := Nat.le_trans (Nat.pow_le_pow_right (by decide) (by omega : n ≤ 17)) (by decide)
              have hx10 : x * 10 + (S[n].toNat - 48) < 10 ^ (n + 1) := by rw [hp]; omega
              obtain ⟨y, hy⟩ : ∃ y : Nat, x * 10 + (S[n].toNat - 48) = y := ⟨_, rfl⟩
              have hyi : (x : Int) * 10 + ((S[n].toNat : Int) - 48) = (y : Int) := by omega
              rw [hyi] at hnx
              rw [hy] at hx10
              have hxs : (x : Int) < 100000000000000000 := by omega
              have hds : IntKind.u8.wrap ((S[n].toNat : Int) - 48) = (S[n].toNat : Int) - 48 := by rw [IntKind.wrap_u8]; omega
              have HNX := Lib.hid hnx; have HX10 := Lib.hid hx10; have HYI := Lib.hid hyi
              clear hnx hx10 hp hpb HN HD hy hyi hx
              go_wp2_with fail
              have hfx : (Value.int .i64 ((x : Int) * 10 + ((S[n].toNat : Int) - 48))) = .int .i64 (y : Int) := by rw [HYI.out]
              exact ⟨⟨n + 1, y, by omega, by omega, by go_num, hfx, HX10.out, HNX.out, trivial⟩, by simp [intOf]; omega⟩
theorem value_allT : ∀ (m f : Nat) (s : List UInt8), f ≤ m → s.length ≤ 4096 → 2 * s.length + 1 ≤ f → ValT f s
  | 0, f, s, hf, _, hfs => absurd hfs (by omega)
  | m + 1, f, s, hf, hs, hfs => by
    obtain ⟨g, rfl⟩ : ∃ g, f = g + 1 := ⟨f - 1, by omega⟩
    exact valueT_step m (fun f s h1 h2 h3 => value_allT m f s h1 h2 h3) g s (by omega) hs hfs
end Go.Proofs.YtcbajbpdgmmaeaaDoor
