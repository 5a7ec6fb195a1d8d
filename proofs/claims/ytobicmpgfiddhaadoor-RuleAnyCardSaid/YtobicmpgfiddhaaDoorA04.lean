/- Texts merged by program, in build order: RuleRows, RuleSmall, JsonItems, JsonRRead. -/
import Derived.Test.YtobicmpgfiddhaaDoorRuleVals
import Derived.Test.YtobicmpgfiddhaaDoorCellar
import Derived.Test.YtobicmpgfiddhaaDoorJsonRSame
import Derived.Test.YtobicmpgfiddhaaDoorJsonField
import Derived.Test.YtobicmpgfiddhaaDoorJsonGood
import Derived.Test.YtobicmpgfiddhaaDoorJsonSpec
import Derived.Test.YtobicmpgfiddhaaDoorJsonMem
namespace Go.Proofs.YtobicmpgfiddhaaDoor
open Go.RowKit
set_option linter.unusedVariables false
set_option linter.unusedSimpArgs false

theorem Tryd.infoStrsX : (Tryd.prog.info? 23).map (fun i => (i.zero, i.size, i.bytes)) = some (some (.slice none 0 0), 1, 24) := by kernel_rfl
/-- a slice of texts in a block of its own, from block B on, that is not the block of the row sv -/
def TAt (B : Nat) (w : World) (sv : Value) (u : Value) (l : List (List UInt8)) : Prop :=
  ∃ g c, u = .slice (some ⟨g, 0, none⟩) l.length c ∧ l.length ≤ c ∧ B ≤ g ∧ g < w.heap.size ∧ sv.ownBlock ≠ some g ∧ ∀ j x, l[j]? = some x → w.cell? ⟨g, j, none⟩ = some (tv x)
theorem TAt.later {B : Nat} {w w' : World} {sv u : Value} {l : List (List UInt8)} (h : TAt B w sv u l) (hb : Below w.heap.size w w') : TAt B w' sv u l := by
  obtain ⟨g, c, e, hc, hB, hg, hn, h⟩ := h
  exact ⟨g, c, e, hc, hB, Nat.lt_of_lt_of_le hg hb.size, hn, fun j x hj => (hb.cell (p := ⟨g, j, none⟩) hg).trans (h j x hj)⟩
theorem TAt.grow {B : Nat} {w w' : World} {sv sv' u : Value} {l : List (List UInt8)} (h : TAt B w sv u l) (hg : w.grownBy w' sv.ownBlock) (hat : sv'.ownBlock = sv.ownBlock ∨ sv'.ownBlock = some w.heap.size) : TAt B w' sv' u l := by
  obtain ⟨g, c, e, hc, hB, hgl, hn, h⟩ := h
  refine ⟨g, c, e, hc, hB, Nat.lt_of_lt_of_le hgl hg.size, fun e => ?_, fun j x hj => (World.cell?_of_block (w := w) (a := ⟨g, j, none⟩) (hg.block g hgl (fun e => hn e.symm))).trans (h j x hj)⟩
  rcases hat with ha | ha
  · rw [ha] at e; exact hn e
  · rw [ha] at e; injection e with e; omega
/-- what holds of the list's memory behind so many slices -/
structure XSt (B : Nat) (w wr : World) (sv : Value) (l : List (List (List UInt8))) (xs : List Value) : Prop where
  row : wr.ownsRow B 23 1 sv l.length xs
  elem : ∀ i (h : i < l.length), ∃ u, xs[i]? = some u ∧ TAt B wr sv u l[i]
  low : Below B w wr
  size : B ≤ wr.heap.size
theorem XSt.start {w : World} : XSt w.heap.size w w (.slice none 0 0) [] [] :=
  ⟨World.ownsRow_nil _ _ _ _, fun i h => absurd h (Nat.not_lt_zero _), Below.refl _ _, Nat.le_refl _⟩
theorem XSt.later {B : Nat} {w wr w1 : World} {sv : Value} {l : List (List (List UInt8))} {xs : List Value} (h : XSt B w wr sv l xs) (hb : Below wr.heap.size wr w1) : XSt B w w1 sv l xs :=
  ⟨own_below h.row hb, fun i hi => by obtain ⟨u, e, ht⟩ := h.elem i hi; exact ⟨u, e, ht.later hb⟩, h.low.trans (hb.mono h.size), Nat.le_trans h.size hb.size⟩
theorem XSt.item {B : Nat} {w wr w2 : World} {sv sv' u : Value} {l : List (List (List UInt8))} {xs : List Value} (h : XSt B w wr sv l xs) (x : List (List UInt8)) (hu : TAt B wr sv u x)
    (hown : w2.ownsRow B 23 1 sv' (l.length + 1) (xs ++ [u])) (hg : wr.grownBy w2 sv.ownBlock) (hat : sv'.ownBlock = sv.ownBlock ∨ sv'.ownBlock = some wr.heap.size) : XSt B w w2 sv' (l ++ [x]) (xs ++ [u]) := by
  have hlt := h.row.lt
  have hxl : xs.length = l.length * 1 := h.row.1
  refine ⟨by rw [List.length_append, List.length_singleton]; exact hown, fun i hi => ?_, h.low.trans ((Below.refl B wr).grown hg h.size (fun k hk => (hlt k hk).1)), Nat.le_trans h.size hg.size⟩
  rcases Nat.lt_or_ge i l.length with hil | hil
  · obtain ⟨v, e, ht⟩ := h.elem i hil
    refine ⟨v, by rw [List.getElem?_append_left (by omega)]; exact e, ?_⟩
    rw [show (l ++ [x])[i] = l[i] from List.getElem_append_left hil]
    exact ht.grow hg hat
  · have hie : i = l.length := by simp at hi; omega
    subst hie
    refine ⟨u, by rw [List.getElem?_append_right (by omega)]; simp [hxl], ?_⟩
    rw [show (l ++ [x])[l.length]'hi = x by simp]
    exact hu.grow hg hat
theorem XSt.done {B : Nat} {w wr : World} {sv : Value} {l : List (List (List UInt8))} {xs : List Value} (h : XSt B w wr sv l xs) : RdX wr sv l := by
  have hxl : xs.length = l.length * 1 := h.row.1
  have hc := fun g => World.ownsRow.cells (g := g) h.row
  rcases h.row.2 with ⟨hv, h0⟩ | ⟨g, cap, cur, hv, hB, hg, hcap, _⟩
  · exact ⟨none, 0, by rw [hv, h0], by omega, fun k r hk => by rw [List.eq_nil_of_length_eq_zero h0] at hk; cases hk⟩
  · refine ⟨some ⟨g, 0, none⟩, cap, hv, hcap, fun k r hk => ?_⟩
    obtain ⟨hkl, rfl⟩ := List.getElem?_eq_some_iff.1 hk
    obtain ⟨u, e, gt, c, e1, e2, _, e4, _, e6⟩ := h.elem k hkl
    refine ⟨g, 0, u, rfl, (Array.getElem?_eq_some_iff.1 hg).1, ?_, some ⟨gt, 0, none⟩, c, e1, e2, fun j x hj => ⟨gt, 0, rfl, e4, ?_⟩⟩
    · have := hc g (by rw [hv]; rfl) k u e
      rwa [Addr.add_lit] at this
    · rw [Nat.zero_add]; exact e6 j x hj
/-- a row of texts, as such a slice -/
theorem TAt.of {B0 B : Nat} {w : World} {sv u : Value} {l : List (List UInt8)} {xs : List Value} (h : w.ownsRow B0 9 1 u l.length xs) (hx : xs = tcells l) (hl : l ≠ []) (hB : B ≤ B0) (hs : ∀ g, sv.ownBlock = some g → g < B0) : TAt B w sv u l := by
  have hc := fun g => World.ownsRow.cells (g := g) h
  rcases h.2 with ⟨hv, h0⟩ | ⟨g, cap, cur, hv, hBg, hg, hcap, _⟩
  · exact absurd (List.eq_nil_of_length_eq_zero h0) hl
  · refine ⟨g, cap, hv, hcap, by omega, (Array.getElem?_eq_some_iff.1 hg).1, fun e => by have := hs g e; omega, fun j x hj => ?_⟩
    have := hc g (by rw [hv]; rfl) j (tv x) (by rw [hx]; unfold tcells; rw [List.getElem?_map, hj]; rfl)
    rwa [Addr.add_lit, Nat.zero_add] at this
end Go.Proofs.YtobicmpgfiddhaaDoor
namespace Go.Proofs.YtobicmpgfiddhaaDoor
open Go.RowKit
set_option linter.unusedVariables false
set_option linter.unusedSimpArgs false

mutual
/-- is a value not too large -/
def V.smallB : V → Nat → Bool
  | .mk _ _ t l ks, d => match d with
    | 0 => false
    | d + 1 => decide (l.length ≤ 200) && decide (ks.length ≤ 200) && decide (t.length ≤ 1000) && ks.all (fun x => decide (x.length ≤ 200)) && V.smalls l d
def V.smalls : List V → Nat → Bool
  | [], _ => true
  | v :: r, d => v.smallB d && V.smalls r d
end
theorem small_mk (k n : Int) (t : List UInt8) (l : List V) (ks : List (List UInt8)) (d : Nat) : (V.mk k n t l ks).smallB (d + 1) = (decide (l.length ≤ 200) && decide (ks.length ≤ 200) && decide (t.length ≤ 1000) && ks.all (fun x => decide (x.length ≤ 200)) && V.smalls l d) := by conv => lhs; unfold V.smallB
theorem small_zero (v : V) : v.smallB 0 = false := by obtain ⟨k, n, t, l, ks⟩ := v; unfold V.smallB; rfl
theorem smalls_iff (l : List V) (d : Nat) : V.smalls l d = true ↔ ∀ i (h : i < l.length), l[i].smallB d = true := by
  induction l with
  | nil => unfold V.smalls; simp
  | cons v r ih =>
    have e : V.smalls (v :: r) d = (v.smallB d && V.smalls r d) := by conv => lhs; unfold V.smalls
    rw [e, Bool.and_eq_true, ih]
    constructor
    · intro h i hi
      cases i with
      | zero => exact h.1
      | succ i => exact h.2 i (by simpa using hi)
    · intro h
      exact ⟨h 0 (by simp), fun i hi => h (i + 1) (by simpa using hi)⟩
theorem smalls_no {l : List V} {d i : Nat} (hi : i < l.length) (h : l[i].smallB d = false) : V.smalls l d = false := by
  cases hu : V.smalls l d with
  | false => rfl
  | true => rw [(smalls_iff l d).1 hu i hi] at h; cases h
theorem keys_yes {ks : List (List UInt8)} (h : ∀ i (hi : i < ks.length), ks[i].length ≤ 200) : ks.all (fun x => decide (x.length ≤ 200)) = true := by
  rw [List.all_eq_true]
  intro x hx
  obtain ⟨i, hi, rfl⟩ := List.mem_iff_getElem.1 hx
  exact decide_eq_true (h i hi)
theorem keys_no {ks : List (List UInt8)} {i : Nat} (hi : i < ks.length) (h : ¬ ks[i].length ≤ 200) : ks.all (fun x => decide (x.length ≤ 200)) = false := by
  cases hu : ks.all (fun x => decide (x.length ≤ 200)) with
  | false => rfl
  | true => exact absurd (of_decide_eq_true (List.all_eq_true.1 hu _ (List.getElem_mem hi))) h
/-- what is small is slim, and not deep -/
theorem small_slim : ∀ (d : Nat) (v : V), v.smallB d = true → v.slim 1000000 ∧ v.depth ≤ d
  | 0, v, h => by rw [small_zero] at h; cases h
  | d + 1, v, h => by
    obtain ⟨k, n, t, l, ks⟩ := v
    rw [small_mk] at h
    simp only [Bool.and_eq_true, decide_eq_true_eq] at h
    obtain ⟨⟨⟨⟨h1, h2⟩, h3⟩, h4⟩, h5⟩ := h
    have hi := (smalls_iff l d).1 h5
    refine ⟨?_, ?_⟩
    · unfold V.slim
      refine ⟨by omega, by omega, ?_⟩
      have : ∀ (l : List V), (∀ i (h : i < l.length), l[i].slim 1000000) → V.slims 1000000 l := by
        intro l
        induction l with
        | nil => intro _; unfold V.slims; trivial
        | cons v r ih => intro h; unfold V.slims; exact ⟨h 0 (by simp), ih fun i hi => h (i + 1) (by simpa using hi)⟩
      exact this l fun i h => (small_slim d l[i] (hi i h)).1
    · rw [depth_mk]
      have := (depths_iff l d).2 fun i h => (small_slim d l[i] (hi i h)).2
      omega
set_option maxRecDepth 100000 in
set_option maxHeartbeats 20000000 in
theorem small_at (m : Nat) : ∀ (v : V) (d : Nat) (w : World) (L N : Nat) (cs : List Value), v.size ≤ m → d ≤ 1000000 → VIs w L N v cs → N ≤ w.heap.size →
    Calls Tryd.prog 7 #[.agg cs.toArray, .int .i64 (d : Int)] w fun e w' => e = .returned (.bool (v.smallB d)) ∧ Below w.heap.size w w' := by
  induction m with
  | zero => intro v d w L N cs hm; exact absurd (size_pos v) (by omega)
  | succ m ih =>
  intro v d w L N cs hm hd hv hN
  obtain ⟨k, n, t, l, ks⟩ := v
  obtain ⟨⟨ml, mk, mt, mx⟩, A, c, A', c', rfl, h1, h2⟩ := hv.out
  have hb0 := (Below.refl w.heap.size w).alloc (Nat.le_refl _) (.cells #[.int .i64 k, .int .i64 n, .string ⟨t.toArray⟩, .slice A l.length c, .slice A' ks.length c'] 25)
  have x1 := Box.new w (.int .i64 k) (.int .i64 n) (.string ⟨t.toArray⟩) (.slice A l.length c) (.slice A' ks.length c') 25
  have hsz1 : w.heap.size + 1 ≤ (w.alloc (.cells #[.int .i64 k, .int .i64 n, .string ⟨t.toArray⟩, .slice A l.length c, .slice A' ks.length c'] 25)).heap.size := by simp
  cases d with
  | zero =>
    have e0 : (V.mk k n t l ks).smallB 0 = false := small_zero _
    rw [e0]
    have HB0 := Lib.hid hb0
    clear e0 hb0 hsz1 x1
    go_enter Tryd.func7, Tryd.ntmps7
    go_wp2
    go_ret
    exact ⟨rfl, HB0.out⟩
  | succ d =>
  obtain ⟨H, hH⟩ : ∃ H, (V.mk k n t l ks).smallB (d + 1) = H := ⟨_, rfl⟩
  rw [hH]
  rw [small_mk] at hH
  have mxl := Lib.hid mx
  have KY := Lib.hid (fun h => keys_yes (ks := ks) h)
  have KN := Lib.hid (fun (i : Nat) (hi : i < ks.length) (h : ¬ ks[i].length ≤ 200) => keys_no hi h)
  have SY := Lib.hid (smalls_iff l d).2
  have SN := Lib.hid (fun (i : Nat) (hi : i < l.length) (h : l[i].smallB d = false) => smalls_no hi h)
  generalize V.smalls l d = F at *
  generalize (ks.all fun x => decide (x.length ≤ 200)) = U at *
  obtain ⟨ll, hll⟩ : ∃ ll, l.length = ll := ⟨_, rfl⟩
  obtain ⟨lk, hlk⟩ : ∃ lk, ks.length = lk := ⟨_, rfl⟩
  obtain ⟨T, hT⟩ : ∃ T : ByteArray, (⟨t.toArray⟩ : ByteArray) = T := ⟨_, rfl⟩
  have hTs : T.size = t.length := by rw [← hT]; show t.toArray.size = _; simp
  rw [hll] at hb0 x1 hsz1 ml hH ⊢
  rw [hlk] at hb0 x1 hsz1 mk hH ⊢
  rw [hT] at hb0 x1 hsz1 ⊢
  rw [← hTs] at hH mt
  obtain ⟨D, hD⟩ : ∃ D : Int, ((d + 1 : Nat) : Int) = D := ⟨_, rfl⟩
  rw [hD]
  have u1 : (D == 0) = false := by simp; omega
  have u2 : D - 1 = (d : Int) := by omega
  have u3 : IntKind.i64.wrap (d : Int) = (d : Int) := by rw [IntKind.wrap_i64]; omega
  have HB0 := Lib.hid hb0; have X1 := Lib.hid x1; have HS1 := Lib.hid hsz1; have HM := Lib.hid hm; have HH := Lib.hid hH; have NL := Lib.hid hll; have NK := Lib.hid hlk; have H1 := Lib.hid h1; have H2 := Lib.hid h2; have HD := Lib.hid hD
  clear hb0 x1 hsz1 hv mx hm hH hll hlk h1 h2 hD hT hTs
  by_cases q1 : ll ≤ 200
  rotate_left
  · have d1 : decide ((200 : Int) < (ll : Int)) = true := by simp; omega
    go_enter Tryd.func7, Tryd.ntmps7
    go_wp2
    go_ret
    exact ⟨ret_bool (HH.out.symm.trans (by rw [decide_eq_false q1]; rfl)).symm, HB0.out⟩
  have d1 : decide ((200 : Int) < (ll : Int)) = false := by simp; omega
  by_cases q2 : lk ≤ 200
  rotate_left
  · have d2 : decide ((200 : Int) < (lk : Int)) = true := by simp; omega
    go_enter Tryd.func7, Tryd.ntmps7
    go_wp2
    go_ret
    exact ⟨ret_bool (HH.out.symm.trans (by rw [decide_eq_false q2]; simp)).symm, HB0.out⟩
  have d2 : decide ((200 : Int) < (lk : Int)) = false := by simp; omega
  by_cases q3 : T.size ≤ 1000
  rotate_left
  · have d3 : decide ((1000 : Int) < (T.size : Int)) = true := by simp; omega
    go_enter Tryd.func7, Tryd.ntmps7
    go_wp2
    go_ret
    exact ⟨ret_bool (HH.out.symm.trans (by rw [decide_eq_false q3]; simp)).symm, HB0.out⟩
  have d3 : decide ((1000 : Int) < (T.size : Int)) = false := by simp; omega
  have hH2 : H = (U && F) := HH.out.symm.trans (by rw [decide_eq_true q1, decide_eq_true q2, decide_eq_true q3]; simp)
  have HU := Lib.hid hH2
  clear HH hH2
  go_enter Tryd.func7, Tryd.ntmps7
  go_wp2
  go_loopw [5] (fun i wr => ∃ j : Nat, j ≤ lk ∧ i = .int .i64 j ∧ (∀ s (hs : s < ks.length), s < j → ks[s].length ≤ 200) ∧ Box wr w.heap.size (.int .i64 k) (.int .i64 n) (.string T) (.slice A ll c) (.slice A' lk c') ∧ w.heap.size + 1 ≤ wr.heap.size ∧ Below w.heap.size w wr) (fun i _ => lk - (intOf i).toNat)
  case atStart => exact ⟨0, Nat.zero_le _, rfl, fun _ _ h => absurd h (Nat.not_lt_zero _), X1.out, HS1.out, HB0.out⟩
  case round =>
    obtain ⟨j, hj, rfl, hne, bx, hs, hb⟩ := hrel
    have HNE := Lib.hid hne; have BX := Lib.hid bx; have HBB := Lib.hid hb; clear hne
    obtain ⟨-, -, -, x3, x4⟩ := bx
    by_cases hlt : j < lk
    · have hjk : j < ks.length := by have := NK.out; omega
      obtain ⟨p, o, rfl, _, hpN, hc1⟩ := VIs.key H1.out j hjk
      have hc1 := (hb.cell (p := ⟨p, o + j, none⟩) (by show p < _; omega)).trans hc1
      have T1 := Lib.hid (KN.out j hjk)
      have T2 := Lib.hid (fun (h : ks[j].length ≤ 200) s (hs : s < ks.length) (hsr : s < j + 1) => (show ks[s].length ≤ 200 from if e : s = j then by subst e; exact h else HNE.out s hs (by omega)))
      have hxm := mxl.out ks[j] (List.getElem_mem hjk)
      obtain ⟨x, hx⟩ : ∃ x, ks[j] = x := ⟨_, rfl⟩
      rw [hx] at hc1 T1 T2 hxm
      obtain ⟨X, hX⟩ : ∃ X : ByteArray, (⟨x.toArray⟩ : ByteArray) = X := ⟨_, rfl⟩
      have hXs : X.size = x.length := by rw [← hX]; show x.toArray.size = _; simp
      rw [hX] at hc1
      rw [← hXs] at T1 T2 hxm
      have hj0 : (0 : Int) ≤ j := by omega
      have hj1 : (j : Int) < lk := by omega
      clear hx hb hX hXs
      by_cases hxy : X.size ≤ 200
      · have hbe : decide ((200 : Int) < (X.size : Int)) = false := by simp; omega
        have T3 := Lib.hid (T2.out hxy); clear T1 T2
        go_wp2_with fail
        exact ⟨⟨j + 1, by omega, by go_num, T3.out, BX.out, hs, HBB.out⟩, by simp [intOf]; omega⟩
      · have hbe : decide ((200 : Int) < (X.size : Int)) = true := by simp; omega
        have T3 := Lib.hid (T1.out hxy); clear T1 T2
        go_wp2_with fail
        go_ret
        exact ⟨ret_bool (HU.out.trans (by rw [T3.out]; rfl)).symm, HBB.out⟩
    · have T3 := Lib.hid (KY.out (fun s hs => HNE.out s hs (by have := NK.out; omega)))
      obtain rfl : j = lk := by omega
      go_wp2
      go_loopw [6] (fun i W => ∃ r : Nat, r ≤ ll ∧ i = .int .i64 r ∧ (∀ s (hs : s < l.length), s < r → l[s].smallB d = true) ∧ Box W w.heap.size (.int .i64 k) (.int .i64 n) (.string T) (.slice A ll c) (.slice A' j c') ∧ w.heap.size + 1 ≤ W.heap.size ∧ Below w.heap.size w W) (fun i _ => ll - (intOf i).toNat)
      case atStart => exact ⟨0, Nat.zero_le _, rfl, fun _ _ h => absurd h (Nat.not_lt_zero _), BX.out, hs, HBB.out⟩
      case round =>
        clear x3 x4 hs BX HBB hb
        obtain ⟨r, hr, rfl, hne, bx, hs, hb⟩ := hrel
        have HNE := Lib.hid hne; have BX := Lib.hid bx; have HBB := Lib.hid hb; clear hne
        obtain ⟨-, -, -, x3, x4⟩ := bx
        by_cases hrt : r < ll
        · have hrl : r < l.length := by have := NL.out; omega
          obtain ⟨p, o, rfl, _, hpN, xs, hx5, hxv⟩ := VIs.item H2.out r hrl
          have hbN := hb.mono hN
          have hc := fun wq (hwq : Below w.heap.size w wq) => ih l[r] d wq L N xs (by have := HM.out; have := size_get (k := k) (n := n) (t := t) (ks := ks) r hrl; omega) (by omega) (hxv.below (hwq.mono hN)) (Nat.le_trans hN hwq.size)
          have T1 := Lib.hid (SN.out r hrl)
          have T2 := Lib.hid (fun (h : l[r].smallB d = true) s (hs : s < l.length) (hsr : s < r + 1) => (show l[s].smallB d = true from if e : s = r then by subst e; exact h else HNE.out s hs (by omega)))
          obtain ⟨a0, a1, a2, a3, a4, rfl, m0, m1, m2, m3, m4⟩ := hx5.keep (w' := wr) hpN (fun p hp => hbN.cell hp)
          obtain ⟨Q, hQ⟩ : ∃ Q, l[r].smallB d = Q := ⟨_, rfl⟩
          rw [hQ] at hc T1 T2
          have HC := Lib.hid hc
          have hr0 : (0 : Int) ≤ r := by omega
          have hr1 : (r : Int) < ll := by omega
          clear hc hQ hx5 hxv hb
          go_wp2_with fail
          refine (HC.out _ HBB.out).mono ?_
          rintro e1 w1 ⟨rfl, hb1⟩
          dsimp only
          have hs1 := hb1.size
          have BX1 := Lib.hid (BX.out.below (by omega) hb1)
          have HB1 := Lib.hid (HBB.out.trans (hb1.mono (by omega)))
          have HS2 := Lib.hid hs1
          clear hb1 hs1 HC
          cases Q with
          | false =>
            have T3b := Lib.hid (T1.out rfl); clear T1 T2
            go_wp2
            go_ret
            exact ⟨ret_bool (HU.out.trans (by rw [T3b.out]; simp)).symm, HB1.out⟩
          | true =>
            have T3b := Lib.hid (T2.out rfl); clear T1 T2
            go_wp2
            go_roundw
            case rel => exact ⟨r + 1, by omega, by go_num, T3b.out, BX1.out, by have := HS2.out; omega, HB1.out⟩
            case measure => simp [intOf]; omega
        · have T4 := Lib.hid (SY.out (fun s hs => HNE.out s hs (by have := NL.out; omega)))
          obtain rfl : r = ll := by omega
          go_wp2
          go_ret
          exact ⟨ret_bool (HU.out.trans (by rw [T3.out, T4.out]; rfl)).symm, HBB.out⟩
theorem small_any (v : V) (d : Nat) (w : World) (L N : Nat) (cs : List Value) (hd : d ≤ 1000000) (hv : VIs w L N v cs) (hN : N ≤ w.heap.size) :
    Calls Tryd.prog 7 #[.agg cs.toArray, .int .i64 (d : Int)] w fun e w' => e = .returned (.bool (v.smallB d)) ∧ Below w.heap.size w w' :=
  small_at v.size v d w L N cs (Nat.le_refl _) hd hv hN
end Go.Proofs.YtobicmpgfiddhaaDoor
namespace Go.Proofs.YtobicmpgfiddhaaDoor

theorem items_nil : V.items [] = [] := by unfold V.items; rfl
theorem itemsMore_nil : V.itemsMore [] = [] := by unfold V.itemsMore; rfl
theorem itemsMore_cons (v : V) (r : List V) : V.itemsMore (v :: r) = 44 :: (v.show ++ V.itemsMore r) := by conv => lhs; unfold V.itemsMore
theorem pairs_nil (ks : List (List UInt8)) : V.pairs [] ks = [] := by unfold V.pairs; rfl
theorem pairsMore_nil (ks : List (List UInt8)) : V.pairsMore [] ks = [] := by unfold V.pairsMore; rfl
theorem pairsMore_cons (v : V) (r : List V) (ks : List (List UInt8)) : V.pairsMore (v :: r) ks = 44 :: (quoteJ (ks.headD []) ++ 58 :: (v.show ++ V.pairsMore r ks.tail)) := by conv => lhs; unfold V.pairsMore
theorem itemsMore_app (a b : List V) : V.itemsMore (a ++ b) = V.itemsMore a ++ V.itemsMore b := by
  induction a with
  | nil => rw [itemsMore_nil]; rfl
  | cons v a ih => rw [List.cons_append, itemsMore_cons, itemsMore_cons, ih]; simp
theorem items_app (v : V) (a b : List V) : V.items (v :: a ++ b) = V.items (v :: a) ++ V.itemsMore b := by
  rw [List.cons_append, items_cons, items_cons, itemsMore_app, List.append_assoc]
theorem pairsMore_app (a b : List V) : ∀ ks : List (List UInt8), V.pairsMore (a ++ b) ks = V.pairsMore a ks ++ V.pairsMore b (ks.drop a.length) := by
  induction a with
  | nil => intro ks; rw [pairsMore_nil]; rfl
  | cons v a ih =>
    intro ks
    rw [List.cons_append, pairsMore_cons, pairsMore_cons, ih]
    have e : ks.tail.drop a.length = ks.drop (v :: a).length := by rw [List.length_cons]; cases ks <;> simp
    rw [e]; simp
theorem pairs_app (v : V) (a b : List V) (ks : List (List UInt8)) : V.pairs (v :: a ++ b) ks = V.pairs (v :: a) ks ++ V.pairsMore b (ks.drop (a.length + 1)) := by
  rw [List.cons_append, pairs_cons, pairs_cons, pairsMore_app]
  have e : ks.tail.drop a.length = ks.drop (a.length + 1) := by cases ks <;> simp
  rw [e]; simp
theorem items_zero (l : List V) : V.items (l.take 0) = [] := by rw [List.take_zero]; exact items_nil
theorem items_one (l : List V) (h : 0 < l.length) : V.items (l.take (0 + 1)) = l[0].show := by
  obtain ⟨v, r, rfl⟩ : ∃ v r, l = v :: r := by cases l with | nil => simp at h | cons v r => exact ⟨v, r, rfl⟩
  show V.items [v] = _
  rw [items_cons, itemsMore_nil, List.append_nil]; rfl
theorem items_next (l : List V) (j : Nat) (h : j < l.length) (h0 : 0 < j) : V.items (l.take (j + 1)) = V.items (l.take j) ++ (44 : UInt8) :: l[j].show := by
  rw [List.take_succ_eq_append_getElem h]
  obtain ⟨v, r, e⟩ : ∃ v r, l.take j = v :: r := by
    cases hl : l.take j with
    | nil => have := congrArg List.length hl; rw [List.length_take, List.length_nil] at this; omega
    | cons v r => exact ⟨v, r, rfl⟩
  rw [e, items_app, itemsMore_cons, itemsMore_nil, List.append_nil]
theorem pairs_zero (l : List V) (ks : List (List UInt8)) : V.pairs (l.take 0) ks = [] := by rw [List.take_zero]; exact pairs_nil ks
theorem pairs_one (l : List V) (ks : List (List UInt8)) (h : 0 < l.length) (hk : 0 < ks.length) : V.pairs (l.take (0 + 1)) ks = quoteJ ks[0] ++ (58 : UInt8) :: l[0].show := by
  obtain ⟨v, r, rfl⟩ : ∃ v r, l = v :: r := by cases l with | nil => simp at h | cons v r => exact ⟨v, r, rfl⟩
  obtain ⟨k, s, rfl⟩ : ∃ v r, ks = v :: r := by cases ks with | nil => simp at hk | cons v r => exact ⟨v, r, rfl⟩
  show V.pairs [v] (k :: s) = _
  rw [pairs_cons, pairsMore_nil, List.append_nil]; rfl
theorem pairs_next (l : List V) (ks : List (List UInt8)) (j : Nat) (h : j < l.length) (hk : j < ks.length) (h0 : 0 < j) : V.pairs (l.take (j + 1)) ks = V.pairs (l.take j) ks ++ (44 : UInt8) :: (quoteJ ks[j] ++ (58 : UInt8) :: l[j].show) := by
  rw [List.take_succ_eq_append_getElem h]
  have hlen : (l.take j).length = j := by rw [List.length_take]; omega
  obtain ⟨v, r, e⟩ : ∃ v r, l.take j = v :: r := by
    cases hl : l.take j with
    | nil => have := congrArg List.length hl; rw [hlen] at this; simp at this; omega
    | cons v r => exact ⟨v, r, rfl⟩
  rw [e] at hlen ⊢
  have e2 : r.length + 1 = j := by simpa using hlen
  rw [pairs_app, pairsMore_cons, pairsMore_nil, List.append_nil, e2]
  have e3 : (ks.drop j).headD [] = ks[j] := by rw [List.drop_eq_getElem_cons hk]; rfl
  rw [e3]
theorem items_len (l : List V) (j : Nat) : (V.items (l.take j)).length ≤ (V.items l).length := by
  by_cases hz : l.take j = []
  · rw [hz, items_nil]; simp
  · obtain ⟨v, r, e⟩ : ∃ v r, l.take j = v :: r := by
      cases hl : l.take j with
      | nil => exact absurd hl hz
      | cons v r => exact ⟨v, r, rfl⟩
    have : V.items l = V.items (l.take j) ++ V.itemsMore (l.drop j) := by
      conv => lhs; rw [← List.take_append_drop j l]
      rw [e, items_app]
    rw [this, List.length_append]; omega
theorem pairs_len (l : List V) (ks : List (List UInt8)) (j : Nat) : (V.pairs (l.take j) ks).length ≤ (V.pairs l ks).length := by
  by_cases hz : l.take j = []
  · rw [hz, pairs_nil]; simp
  · obtain ⟨v, r, e⟩ : ∃ v r, l.take j = v :: r := by
      cases hl : l.take j with
      | nil => exact absurd hl hz
      | cons v r => exact ⟨v, r, rfl⟩
    have : V.pairs l ks = V.pairs (l.take j) ks ++ V.pairsMore (l.drop j) (ks.drop (r.length + 1)) := by
      conv => lhs; rw [← List.take_append_drop j l]
      rw [e, pairs_app]
    rw [this, List.length_append]; omega
theorem show_one (n : Int) (t : List UInt8) (l : List V) (ks : List (List UInt8)) : (V.mk 1 n t l ks).show = nullT := by unfold V.show; simp
theorem show_two (n : Int) (t : List UInt8) (l : List V) (ks : List (List UInt8)) : (V.mk 2 n t l ks).show = if n = 1 then trueT else falseT := by unfold V.show; simp
theorem show_three (n : Int) (t : List UInt8) (l : List V) (ks : List (List UInt8)) : (V.mk 3 n t l ks).show = decI n := by unfold V.show; simp
theorem show_four (n : Int) (t : List UInt8) (l : List V) (ks : List (List UInt8)) : (V.mk 4 n t l ks).show = quoteJ t := by unfold V.show; simp
/-- a good list's items are good -/
theorem good_item {k n : Int} {t : List UInt8} {l : List V} {ks : List (List UInt8)} (h : (V.mk k n t l ks).good = true) (i : Nat) (hi : i < l.length) : l[i].good = true := by
  rw [good_mk, Bool.and_eq_true, goods_iff] at h
  exact h.2 i hi
theorem good_head {k n : Int} {t : List UInt8} {l : List V} {ks : List (List UInt8)} (h : (V.mk k n t l ks).good = true) : HeadIs k n t l.length ks := by
  rw [good_mk, Bool.and_eq_true] at h
  exact head_says h.1
end Go.Proofs.YtobicmpgfiddhaaDoor
namespace Go.Proofs.YtobicmpgfiddhaaDoor
set_option linter.unusedVariables false
set_option linter.unusedSimpArgs false

theorem wordT_le : ∀ (m : Nat) (l acc t : List UInt8) (k n : Nat), l.length ≤ m → wordT l acc k = some (t, n) → t.length + k + 1 ≤ n + acc.length ∧ n ≤ k + l.length ∧ k < n
  | 0, l, acc, t, k, n, hl, h => by
    have : l = [] := List.length_eq_zero_iff.1 (by omega)
    subst this
    unfold wordT at h; cases h
  | m + 1, [], acc, t, k, n, hl, h => by unfold wordT at h; cases h
  | m + 1, c :: r, acc, t, k, n, hl, h => by
    rw [List.length_cons] at hl ⊢
    unfold wordT at h
    by_cases h34 : c = 34
    · rw [if_pos h34] at h
      injection h with h; injection h with h1 h2
      subst h1; subst h2
      omega
    · rw [if_neg h34] at h
      by_cases h92 : c = 92
      · rw [if_pos h92] at h
        match r, hl, h with
        | [], hl, h => cases h
        | e :: r', hl, h =>
          dsimp only at h
          by_cases he : e = 34 ∨ e = 92
          · rw [if_pos he] at h
            have := wordT_le m r' _ t _ n (by simp at hl; omega) h
            rw [List.length_append, List.length_singleton] at this
            rw [List.length_cons]
            omega
          · rw [if_neg he] at h
            match r', hl, h with
            | x :: y :: h' :: l' :: r'', hl, h =>
              dsimp only at h
              split at h
              · have := wordT_le m r'' _ t _ n (by simp at hl; omega) h
                rw [List.length_append, List.length_singleton] at this
                simp only [List.length_cons]
                omega
              · cases h
            | [], _, h => cases h
            | [_], _, h => cases h
            | [_, _], _, h => cases h
            | [_, _, _], _, h => cases h
      · rw [if_neg h92] at h
        have := wordT_le m r _ t _ n (by omega) h
        rw [List.length_append, List.length_singleton] at this
        omega
theorem numT_le : ∀ (l : List UInt8) (m : Nat) (v : Int) (n : Nat), n ≤ (numT l m v n).2 ∧ (numT l m v n).2 ≤ n + l.length
  | [], m, v, n => by cases m <;> exact ⟨Nat.le_refl _, Nat.le_refl _⟩
  | c :: r, 0, v, n => ⟨Nat.le_refl _, by show n ≤ n + _; omega⟩
  | c :: r, m + 1, v, n => by
    rw [numT]
    by_cases h : isDigit c
    · rw [if_pos h]
      have := numT_le r m (v * 10 + (c.toNat - 48 : Int)) (n + 1)
      rw [List.length_cons]; omega
    · rw [if_neg h]
      exact ⟨Nat.le_refl _, by show n ≤ n + _; omega⟩
theorem begins_len {s t : List UInt8} (h : beginsB s t = true) : t.length ≤ s.length := by
  unfold beginsB at h
  have := congrArg List.length (eq_of_beq h)
  rw [List.length_take] at this
  omega
mutual
/-- how much a value holds -/
def V.wt : V → Nat
  | .mk _ _ t l ks => 1 + t.length + V.wts l + kwts ks
def V.wts : List V → Nat
  | [] => 0
  | v :: r => v.wt + V.wts r
def kwts : List (List UInt8) → Nat
  | [] => 0
  | k :: r => 1 + k.length + kwts r
end
theorem wt_mk (k n : Int) (t : List UInt8) (l : List V) (ks : List (List UInt8)) : (V.mk k n t l ks).wt = 1 + t.length + V.wts l + kwts ks := by conv => lhs; unfold V.wt
theorem wts_cons (v : V) (r : List V) : V.wts (v :: r) = v.wt + V.wts r := by conv => lhs; unfold V.wts
theorem wts_nil : V.wts [] = 0 := by unfold V.wts; rfl
theorem kwts_cons (k : List UInt8) (r : List (List UInt8)) : kwts (k :: r) = 1 + k.length + kwts r := by conv => lhs; unfold kwts
theorem kwts_nil : kwts [] = 0 := by unfold kwts; rfl
theorem wts_snoc (l : List V) (v : V) : V.wts (l ++ [v]) = V.wts l + v.wt := by
  induction l with
  | nil => rw [List.nil_append, wts_cons, wts_nil]; omega
  | cons u r ih => rw [List.cons_append, wts_cons, wts_cons, ih]; omega
theorem kwts_snoc (l : List (List UInt8)) (k : List UInt8) : kwts (l ++ [k]) = kwts l + (1 + k.length) := by
  induction l with
  | nil => rw [List.nil_append, kwts_cons, kwts_nil]; omega
  | cons u r ih => rw [List.cons_append, kwts_cons, kwts_cons, ih]; omega
theorem wt_pos (v : V) : 1 ≤ v.wt := by obtain ⟨k, n, t, l, ks⟩ := v; rw [wt_mk]; omega
theorem wts_mem {l : List V} {v : V} (h : v ∈ l) : v.wt ≤ V.wts l := by
  induction l with
  | nil => cases h
  | cons u r ih =>
    rw [wts_cons]
    rcases List.mem_cons.1 h with rfl | h
    · omega
    · have := ih h; omega
def ReadV (f : Nat) : Prop := ∀ s : List UInt8, (valueT f s).2 ≤ s.length ∧ ((valueT f s).2 ≠ 0 → (valueT f s).1.wt ≤ (valueT f s).2)
def ReadL (f : Nat) : Prop := ∀ (obj : Bool) (s : List UInt8) (n : Nat) (ks : List (List UInt8)) (l : List V), (loopT f obj s n ks l).2 ≤ n + s.length ∧
  ((loopT f obj s n ks l).2 ≠ 0 → n < (loopT f obj s n ks l).2 ∧ (loopT f obj s n ks l).1.wt + n ≤ (loopT f obj s n ks l).2 + V.wts l + kwts ks)
theorem wt_plain (k n : Int) (t : List UInt8) : (V.mk k n t [] []).wt = 1 + t.length := by rw [wt_mk, wts_nil, kwts_nil]; rfl
/-- the key ahead of an item -/
def keyT (obj : Bool) (s : List UInt8) (ks : List (List UInt8)) : Option (List (List UInt8) × Nat) :=
  if obj then (if beginsB s [34] then (match wordT (s.drop 1) [] 1 with
      | some (t, k) => if beginsB (s.drop k) [58] then some (ks ++ [t], k + 1) else none
      | none => none) else none) else some (ks, 0)
theorem loopT_succ (f : Nat) (obj : Bool) (s : List UInt8) (n : Nat) (ks : List (List UInt8)) (l : List V) : loopT (f + 1) obj s n ks l = (match keyT obj s ks with
    | none => (.mk (if obj then 6 else 5) 0 [] l ks, 0)
    | some (ks', j) =>
      match valueT f (s.drop j) with
      | (x, k) =>
        if k = 0 then (.mk (if obj then 6 else 5) 0 [] l ks', 0)
        else if beginsB (s.drop (j + k)) [if obj then 125 else 93] then (.mk (if obj then 6 else 5) 0 [] (l ++ [x]) ks', n + j + k + 1)
        else if beginsB (s.drop (j + k)) [44] then loopT f obj (s.drop (j + k + 1)) (n + j + k + 1) ks' (l ++ [x])
        else (.mk (if obj then 6 else 5) 0 [] (l ++ [x]) ks', 0)) := by
  conv => lhs; unfold loopT
  rfl
theorem readL (f : Nat) (hv : ReadV f) (hl : ReadL f) : ReadL (f + 1) := by
  intro obj s n ks l
  rw [loopT_succ]
  obtain ⟨K, hK⟩ : ∃ K, keyT obj s ks = K := ⟨_, rfl⟩
  rw [hK]
  unfold keyT at hK
  cases K with
  | none => exact ⟨Nat.zero_le _, fun h => absurd rfl h⟩
  | some y =>
    obtain ⟨ks', j⟩ := y
    have hj : j ≤ s.length ∧ kwts ks' ≤ kwts ks + j := by
      cases obj with
      | false =>
        rw [if_neg (by decide)] at hK
        injection hK with hK; injection hK with h1 h2
        subst h1; subst h2; exact ⟨Nat.zero_le _, Nat.le_refl _⟩
      | true =>
        rw [if_pos rfl] at hK
        by_cases hb : beginsB s [34] = true
        · rw [if_pos hb] at hK
          have h1 := begins_len hb
          cases hw : wordT (s.drop 1) [] 1 with
          | none => rw [hw] at hK; cases hK
          | some z =>
            obtain ⟨t, k⟩ := z
            rw [hw] at hK
            dsimp only at hK
            by_cases hc : beginsB (s.drop k) [58] = true
            · rw [if_pos hc] at hK
              injection hK with hK; injection hK with h3 h4
              subst h3; subst h4
              have h2 := wordT_le _ _ _ _ _ _ (Nat.le_refl _) hw
              have h5 := begins_len hc
              simp only [List.length_drop, List.length_nil, List.length_singleton, List.length_cons] at h1 h2 h5
              rw [kwts_snoc]
              omega
            · rw [if_neg hc] at hK; cases hK
        · rw [if_neg hb] at hK; cases hK
    dsimp only
    have h1 := hv (s.drop j)
    cases hvv : valueT f (s.drop j) with
    | mk x k =>
    rw [hvv] at h1
    dsimp only at h1 ⊢
    rw [List.length_drop] at h1
    by_cases hk : k = 0
    · rw [if_pos hk]; exact ⟨Nat.zero_le _, fun h => absurd rfl h⟩
    · rw [if_neg hk]
      have hw := h1.2 hk
      by_cases he : beginsB (s.drop (j + k)) [if obj then 125 else 93] = true
      · rw [if_pos he]
        have h5 := begins_len he
        rw [List.length_drop, List.length_singleton] at h5
        dsimp only
        rw [wt_mk, wts_snoc, List.length_nil]
        refine ⟨by omega, fun _ => by omega⟩
      · rw [if_neg he]
        by_cases hc : beginsB (s.drop (j + k)) [44] = true
        · rw [if_pos hc]
          have h5 := begins_len hc
          rw [List.length_drop, List.length_singleton] at h5
          have h2 := hl obj (s.drop (j + k + 1)) (n + j + k + 1) ks' (l ++ [x])
          rw [List.length_drop, wts_snoc] at h2
          refine ⟨by omega, fun h => ?_⟩
          have := h2.2 h
          omega
        · rw [if_neg hc]; exact ⟨Nat.zero_le _, fun h => absurd rfl h⟩
theorem readVs (f : Nat) (hl : ReadL f) : ReadV (f + 1) := by
  intro s
  unfold valueT
  by_cases h1 : beginsB s nullT = true
  · rw [if_pos h1]
    have := begins_len h1
    exact ⟨this, fun _ => by rw [wt_plain]; decide⟩
  rw [if_neg h1]
  by_cases h2 : beginsB s trueT = true
  · rw [if_pos h2]
    have := begins_len h2
    exact ⟨this, fun _ => by rw [wt_plain]; decide⟩
  rw [if_neg h2]
  by_cases h3 : beginsB s falseT = true
  · rw [if_pos h3]
    have := begins_len h3
    exact ⟨this, fun _ => by rw [wt_plain]; decide⟩
  rw [if_neg h3]
  by_cases h4 : beginsB s [34] = true
  · rw [if_pos h4]
    have h5 := begins_len h4
    cases hw : wordT (s.drop 1) [] 1 with
    | none => exact ⟨Nat.zero_le _, fun h => absurd rfl h⟩
    | some z =>
      obtain ⟨t, n⟩ := z
      have h6 := wordT_le _ _ _ _ _ _ (Nat.le_refl _) hw
      rw [List.length_drop, List.length_nil] at h6
      rw [List.length_singleton] at h5
      dsimp only
      rw [wt_plain]
      exact ⟨by omega, fun _ => by omega⟩
  rw [if_neg h4]
  by_cases h5 : beginsB s [91] = true
  · rw [if_pos h5]
    have h6 := begins_len h5
    rw [List.length_singleton] at h6
    by_cases h7 : beginsB (s.drop 1) [93] = true
    · rw [if_pos h7]
      have h8 := begins_len h7
      rw [List.length_drop, List.length_singleton] at h8
      exact ⟨by show 2 ≤ _; omega, fun _ => by rw [wt_plain]; decide⟩
    · rw [if_neg h7]
      have h9 := hl false (s.drop 1) 1 [] []
      rw [List.length_drop, wts_nil, kwts_nil] at h9
      exact ⟨by omega, fun h => by have := h9.2 h; omega⟩
  rw [if_neg h5]
  by_cases h5b : beginsB s [123] = true
  · rw [if_pos h5b]
    have h6 := begins_len h5b
    rw [List.length_singleton] at h6
    by_cases h7 : beginsB (s.drop 1) [125] = true
    · rw [if_pos h7]
      have h8 := begins_len h7
      rw [List.length_drop, List.length_singleton] at h8
      exact ⟨by show 2 ≤ _; omega, fun _ => by rw [wt_plain]; decide⟩
    · rw [if_neg h7]
      have h9 := hl true (s.drop 1) 1 [] []
      rw [List.length_drop, wts_nil, kwts_nil] at h9
      exact ⟨by omega, fun h => by have := h9.2 h; omega⟩
  rw [if_neg h5b]
  by_cases h6 : beginsB s [45] = true
  · rw [if_pos h6]
    have h7 := begins_len h6
    rw [List.length_singleton] at h7
    have h8 := numT_le (s.drop 1) 17 0 1
    rw [List.length_drop] at h8
    cases hn : numT (s.drop 1) 17 0 1 with
    | mk v n =>
    rw [hn] at h8
    dsimp only at h8 ⊢
    rw [wt_plain]
    exact ⟨by omega, fun h => by simp; omega⟩
  · rw [if_neg h6]
    have h8 := numT_le s 18 0 0
    cases hn : numT s 18 0 0 with
    | mk v n =>
    rw [hn] at h8
    dsimp only at h8 ⊢
    rw [wt_plain]
    exact ⟨by omega, fun h => by simp; omega⟩
theorem read_all : ∀ f, ReadV f ∧ ReadL f
  | 0 => ⟨fun s => by unfold valueT; exact ⟨Nat.zero_le _, fun h => absurd rfl h⟩, fun obj s n ks l => by unfold loopT; exact ⟨Nat.zero_le _, fun h => absurd rfl h⟩⟩
  | f + 1 => ⟨readVs f (read_all f).2, readL f (read_all f).1 (read_all f).2⟩
theorem quoteT_wt (t : List UInt8) : (quoteT t).length ≤ 6 * t.length + 1 := by
  induction t with
  | nil => unfold quoteT; simp
  | cons c r ih =>
    unfold quoteT
    have h : (quoteC c).length ≤ 6 := by
      unfold quoteC; split
      · simp
      · split
        · simp
        · simp
    rw [List.length_append, List.length_cons]; omega
theorem quoteJ_wt (t : List UInt8) : (quoteJ t).length ≤ 6 * t.length + 2 := by
  have := quoteT_wt t
  unfold quoteJ; rw [List.length_cons]; omega
theorem itemsMore_wt (l : List V) (h : ∀ v ∈ l, v.show.length + 1 ≤ 24 * v.wt) : (V.itemsMore l).length ≤ 24 * V.wts l := by
  induction l with
  | nil => rw [itemsMore_nil]; simp
  | cons v r ih =>
    rw [itemsMore_cons, wts_cons, List.length_cons, List.length_append]
    have h1 := h v (by simp)
    have h2 := ih (fun u hu => h u (by simp [hu]))
    omega
theorem pairsMore_wt (l : List V) : ∀ (ks : List (List UInt8)), ks.length = l.length → (∀ v ∈ l, v.show.length + 1 ≤ 24 * v.wt) → (V.pairsMore l ks).length ≤ 24 * (V.wts l + kwts ks) := by
  induction l with
  | nil => intro ks _ _; rw [pairsMore_nil]; simp
  | cons v r ih =>
    intro ks hk h
    match ks, hk with
    | k :: ks, hk =>
      rw [pairsMore_cons, wts_cons, kwts_cons]
      have h1 := h v (by simp)
      have h2 := ih ks (by simpa using hk) (fun u hu => h u (by simp [hu]))
      have h3 := quoteJ_wt k
      simp only [List.headD_cons, List.tail_cons, List.length_cons, List.length_append]
      omega
theorem show_wt : ∀ (m : Nat) (v : V), v.size ≤ m → v.good = true → v.show.length + 1 ≤ 24 * v.wt
  | 0, v, hm, _ => absurd (by obtain ⟨k, n, t, l, ks⟩ := v; rw [size_mk]; omega : 0 < v.size) (by omega)
  | m + 1, v, hm, hg => by
    obtain ⟨k, n, t, l, ks⟩ := v
    have hh := good_head hg
    have ih : ∀ v ∈ l, v.show.length + 1 ≤ 24 * v.wt := fun v hv => by
      obtain ⟨i, hi, rfl⟩ := List.mem_iff_getElem.1 hv
      exact show_wt m l[i] (by have := size_get (k := k) (n := n) (t := t) (ks := ks) i hi; omega) (good_item hg i hi)
    have hk := hh.kind
    rw [wt_mk]
    have hkk : k = 1 ∨ k = 2 ∨ k = 3 ∨ k = 4 ∨ k = 5 ∨ k = 6 := by omega
    rcases hkk with rfl | rfl | rfl | rfl | rfl | rfl
    · have e : (V.mk 1 n t l ks).show = nullT := by unfold V.show; rfl
      rw [e]; show 4 + 1 ≤ _; omega
    · have e : (V.mk 2 n t l ks).show = trueT ∨ (V.mk 2 n t l ks).show = falseT := by
        unfold V.show
        by_cases h : n = 1
        · left; simp [h]
        · right; simp [h]
      rcases e with e | e <;> rw [e]
      · show 4 + 1 ≤ _; omega
      · show 5 + 1 ≤ _; omega
    · have e : (V.mk 3 n t l ks).show = decI n := by unfold V.show; rfl
      have := decI_len n (hh.num rfl)
      have h2 : (decI n).length ≤ 17 := by
        unfold decI; split
        · rw [List.length_cons]; omega
        · omega
      rw [e]; omega
    · have e : (V.mk 4 n t l ks).show = quoteJ t := by unfold V.show; rfl
      have := quoteJ_wt t
      rw [e]; omega
    · rw [show_list]
      rw [List.length_cons, List.length_append, List.length_singleton]
      have h1 : (V.items l).length ≤ 24 * V.wts l := by
        cases l with
        | nil => rw [items_nil]; simp
        | cons v r =>
          have h2 := itemsMore_wt (v :: r) ih
          rw [itemsMore_cons, List.length_cons] at h2
          rw [items_cons]; omega
      omega
    · rw [show_object]
      rw [List.length_cons, List.length_append, List.length_singleton]
      have hkl := hh.keys rfl
      have h1 : (V.pairs l ks).length ≤ 24 * (V.wts l + kwts ks) := by
        cases l with
        | nil => rw [pairs_nil]; simp
        | cons v r =>
          have h2 := pairsMore_wt (v :: r) ks hkl ih
          rw [pairsMore_cons, List.length_cons] at h2
          rw [pairs_cons]; omega
      omega
end Go.Proofs.YtobicmpgfiddhaaDoor
