/- Texts merged by program, in build order: RulePutC, ListSt, RuleBits, RuleTells, JsonCloneV. -/
import Derived.Test.YtobicmpgfiddhaaDoorG04
import Derived.Deep.RegionLaw
import Derived.Deep.RegionWith
import Derived.Deep.Cut
import Derived.Test.YtobicmpgfiddhaaDoorG02
import Derived.Test.YtobicmpgfiddhaaDoorG05
import Derived.Lib.SliceRun
import Derived.Deep.WholeRow
namespace Go.Proofs.YtobicmpgfiddhaaDoor
open Go.RowKit
set_option linter.unusedVariables false
set_option linter.unusedSimpArgs false

/-- the last of a row of values, by its cells -/
theorem row_last {w : World} {B n : Nat} {v : Value} {ys : List Value} (h : w.ownsRow B 25 5 v (n + 1) ys) : ∃ g c, v = .slice (some ⟨g, 0, none⟩) (n + 1) c ∧ B ≤ g ∧ (∃ u0 u1 u2 u3 u4, w.cell? ⟨g, n * 5, none⟩ = some u0 ∧ w.cell? ⟨g, n * 5 + 1, none⟩ = some u1 ∧ w.cell? ⟨g, n * 5 + 2, none⟩ = some u2 ∧ w.cell? ⟨g, n * 5 + 3, none⟩ = some u3 ∧ w.cell? ⟨g, n * 5 + 4, none⟩ = some u4) ∧ ∀ o, w.frozen? ⟨g, o, none⟩ = false := by
  rcases h.2 with ⟨_, h0⟩ | ⟨g, cap, cur, hv, hB, hg, hc, _, hcs, _⟩
  · omega
  · exact ⟨g, cap, hv, hB, five_of hg (by omega), fun o => frozen_here hg o⟩
theorem put5_end (xs : List Value) (k : Nat) (hk : xs.length = k) (z0 z1 z2 z3 z4 c0 c1 c2 c3 c4 : Value) : put5 (xs ++ [z0, z1, z2, z3, z4]) k c0 c1 c2 c3 c4 = xs ++ [c0, c1, c2, c3, c4] := by
  subst hk
  unfold put5
  simp [List.set_append]
theorem zero_isP (w : World) (L N : Nat) : VIs w L N V.zero [.int .i64 0, .int .i64 0, .string ⟨#[]⟩, .slice none 0 0, .slice none 0 0] := by
  have h := VIs.mk (w := w) (L := L) (N := N) (k := 0) (n := 0) (t := []) (l := []) (ks := []) (A := none) (A' := none) (c := 0) (c' := 0) ⟨by simp, by simp, by simp, by simp⟩ (.inl rfl) (.inl rfl)
  exact h
theorem own_set5 {B g n c : Nat} {w : World} {xs : List Value} (h : w.ownsRow B 25 5 (.slice (some ⟨g, 0, none⟩) n c) n xs) (k : Nat) (c0 c1 c2 c3 c4 : Value) :
    (set5 w g k c0 c1 c2 c3 c4).ownsRow B 25 5 (.slice (some ⟨g, 0, none⟩) n c) n (put5 xs k c0 c1 c2 c3 c4) := by
  unfold set5 put5
  have r0 := (h.stored k c0).1
  have r1 := (r0.stored (k + 1) c1).1
  have r2 := (r1.stored (k + 2) c2).1
  have r3 := (r2.stored (k + 3) c3).1
  exact (r3.stored (k + 4) c4).1
/-- an item more: an empty one at the row's end, written, then the row stored -/
theorem ROut.pushT {B p g c : Nat} {w w7 : World} {lv kv : Value} {l : List V} {ks : List (List UInt8)} {xs : List Value} (h : ROut B p w lv kv l ks xs) (x : V) {z0 z1 z2 z3 z4 c0 c1 c2 c3 c4 : Value} (hx : ApV B w p lv kv x [c0, c1, c2, c3, c4])
    (hown : w7.ownsRow B 25 5 (.slice (some ⟨g, 0, none⟩) (l.length + 1) c) (l.length + 1) (xs ++ [z0, z1, z2, z3, z4])) (hg : w.grownBy w7 lv.ownBlock) (hat : (Value.slice (some ⟨g, 0, none⟩) (l.length + 1) c).ownBlock = lv.ownBlock ∨ (Value.slice (some ⟨g, 0, none⟩) (l.length + 1) c).ownBlock = some w.heap.size) :
    ROut B p ((set5 w7 g (l.length * 5) c0 c1 c2 c3 c4).setCell ⟨p, 3, none⟩ (.slice (some ⟨g, 0, none⟩) (l.length + 1) c)) (.slice (some ⟨g, 0, none⟩) (l.length + 1) c) kv (l ++ [x]) ks (xs ++ [c0, c1, c2, c3, c4]) := by
  have hr := own_set5 hown (l.length * 5) c0 c1 c2 c3 c4
  rw [put5_end xs _ h.rowL.1] at hr
  refine h.itemMore x ⟨c0, c1, c2, c3, c4, rfl, hx⟩ hr ⟨?_, ?_, ?_, by rw [set5_size]; exact hg.size, fun k hk hne => (set5_there fun e => ?_).trans (hg.block k hk hne)⟩ hat
  · exact (set5_below (B := 0) (Nat.zero_le _)).os.trans hg.os
  · exact (set5_below (B := 0) (Nat.zero_le _)).tape.trans hg.tape
  · exact (set5_below (B := 0) (Nat.zero_le _)).output.trans hg.output
  · rcases hat with ha | ha
    · exact hne (by rw [← ha, e]; rfl)
    · have : g = w.heap.size := by injection ha
      omega
/-- the same, the row stored ahead of the write -/
theorem ROut.pushG {B p g c : Nat} {w w7 : World} {lv kv : Value} {l : List V} {ks : List (List UInt8)} {xs : List Value} (h : ROut B p w lv kv l ks xs) (x : V) {c0 c1 c2 c3 c4 : Value} (hx : ApV B w p lv kv x [c0, c1, c2, c3, c4])
    (hown : w7.ownsRow B 25 5 (.slice (some ⟨g, 0, none⟩) (l.length + 1) c) (l.length + 1) (xs ++ [.int .i64 0, .int .i64 0, .string ⟨#[]⟩, .slice none 0 0, .slice none 0 0])) (hg : w.grownBy w7 lv.ownBlock) (hat : (Value.slice (some ⟨g, 0, none⟩) (l.length + 1) c).ownBlock = lv.ownBlock ∨ (Value.slice (some ⟨g, 0, none⟩) (l.length + 1) c).ownBlock = some w.heap.size) :
    ROut B p (set5 (w7.setCell ⟨p, 3, none⟩ (.slice (some ⟨g, 0, none⟩) (l.length + 1) c)) g (l.length * 5) c0 c1 c2 c3 c4) (.slice (some ⟨g, 0, none⟩) (l.length + 1) c) kv (l ++ [x]) ks (xs ++ [c0, c1, c2, c3, c4]) := by
  have h0 := h.itemMore V.zero ⟨_, _, _, _, _, rfl, 0, 0, .inl rfl, Nat.zero_le _, fun g _ h => absurd h (Nat.not_lt_zero _), zero_isP w 0 0⟩ hown hg hat
  have hl : (l ++ [V.zero]).length = l.length + 1 := by simp
  have hx' : ApV B (w7.setCell ⟨p, 3, none⟩ (.slice (some ⟨g, 0, none⟩) (l.length + 1) c)) p (.slice (some ⟨g, 0, none⟩) (l.length + 1) c) kv x [c0, c1, c2, c3, c4] :=
    hx.step (fun g hgs ⟨a1, a2, a3⟩ => (set_there _ a1).trans (hg.block g hgs fun e => a2 e.symm)) (by rw [set_size]; exact hg.size) fun g hgs ⟨a1, a2, a3⟩ => ⟨a1, fun e => by
      rcases hat with ha | ha
      · rw [ha] at e; exact a2 e
      · rw [ha] at e; injection e with e; omega, a3⟩
  rw [← hl] at h0 hx'
  have h1 := h0.itemSet l.length (by omega) x hx'
  rw [put5_end xs _ h.rowL.1, show (l ++ [V.zero]).set l.length x = l ++ [x] by simp [List.set_append], hl] at h1
  exact h1
/-- what put leaves -/
def PutSays (B p : Nat) (w : World) (l : List V) (ks : List (List UInt8)) (key : List UInt8) (x : V) (e : Ending) (w' : World) : Prop :=
  (∃ v, e = .returned v) ∧ (∃ lv' kv' l' ks' xs', putV (.mk 6 0 [] l ks) key x = .mk 6 0 [] l' ks' ∧ l'.length = ks'.length ∧ ks'.length ≤ ks.length + 1 ∧ ROut B p w' lv' kv' l' ks' xs') ∧ ButO B p w w'
set_option maxRecDepth 100000 in
set_option maxHeartbeats 4000000 in
theorem put_at (B p : Nat) (w : World) (lv kv : Value) (l : List V) (ks : List (List UInt8)) (xs : List Value) (key : List UInt8) (x : V) (x0 x1 x2 x3 x4 : Value) (hR : ROut B p w lv kv l ks xs) (hB : B ≤ w.heap.size) (hlk : l.length = ks.length) (hl : ks.length ≤ 100000)
    (hx : ApV B w p lv kv x [x0, x1, x2, x3, x4])
    (hix : ∀ wq, Below w.heap.size w wq → Calls Tryd.prog 58 #[kv, .string ⟨key.toArray⟩] wq fun e w' => e = .returned (.int .i64 (if keyAt key ks < ks.length then (keyAt key ks : Int) else -1)) ∧ w' = wq) :
    Calls Tryd.prog 41 #[.pointer (some ⟨p, 0, none⟩), .string ⟨key.toArray⟩, .agg #[x0, x1, x2, x3, x4]] w (PutSays B p w l ks key x) := by
  obtain ⟨XA, xc, XA', xc', hxe⟩ := hx.form
  simp only [List.cons.injEq, and_true] at hxe
  obtain ⟨rfl, rfl, rfl, rfl, rfl⟩ := hxe
  obtain ⟨x0, hx0⟩ : ∃ z, x.kind = z := ⟨_, rfl⟩
  obtain ⟨x1, hx1⟩ : ∃ z, x.num = z := ⟨_, rfl⟩
  obtain ⟨x2, hx2⟩ : ∃ z : ByteArray, ⟨x.text.toArray⟩ = z := ⟨_, rfl⟩
  obtain ⟨x3, hx3⟩ : ∃ z, x.list.length = z := ⟨_, rfl⟩
  obtain ⟨x4, hx4⟩ : ∃ z, x.keys.length = z := ⟨_, rfl⟩
  rw [hx0, hx1, hx2, hx3, hx4] at hx ⊢
  clear hx0 hx1 hx2 hx3 hx4
  obtain ⟨W1, hW1⟩ : ∃ W1, W1 = w.alloc (.cells #[.int .i64 x0, .int .i64 x1, .string x2, .slice XA x3 xc, .slice XA' x4 xc'] 25) := ⟨_, rfl⟩
  obtain ⟨R, hRr⟩ : ∃ R, w.heap.size = R := ⟨_, rfl⟩
  have hb1 : Below w.heap.size w W1 := by rw [hW1]; exact (Below.refl _ _).alloc (Nat.le_refl _) _
  have q1 : W1.heap[R]? = some (.cells #[.int .i64 x0, .int .i64 x1, .string x2, .slice XA x3 xc, .slice XA' x4 xc'] 25 (0, 0)) := by rw [hW1, ← hRr]; exact heap_alloc_last w _
  have o1 := hR.keep hb1
  have hx1 : ApV B W1 p lv kv x [.int .i64 x0, .int .i64 x1, .string x2, .slice XA x3 xc, .slice XA' x4 xc'] := hx.step (fun g hg _ => hb1.block g hg) hb1.size fun g _ h => h
  have hps := hR.psize
  have z1 : W1.heap.size = R + 1 := by rw [hW1]; simp [hRr]
  have hpR : p < R := by omega
  obtain ⟨n, hn⟩ : ∃ n, ks.length = n := ⟨_, rfl⟩
  obtain ⟨i, hi⟩ : ∃ i, keyAt key ks = i := ⟨_, rfl⟩
  have hput : putV (.mk 6 0 [] l ks) key x = if i < n then .mk 6 0 [] (l.set i x) ks else .mk 6 0 [] (l ++ [x]) (ks ++ [key]) := by rw [← hi, ← hn]; rfl
  rw [hn, hi] at hix
  have hnl : n ≤ 100000 := by omega
  obtain ⟨KA, kc, rfl⟩ := own_formR o1.rowK
  obtain ⟨LA, lc, rfl⟩ := own_formR o1.rowL
  rw [hn] at hR hx o1 hx1 hix
  have hln : l.length = n := by omega
  rw [hln] at hR hx o1 hx1
  obtain ⟨⟨e0, e1, e2, e3, e4⟩, f0, f1, f2, f3, f4⟩ := box_of o1.var
  obtain ⟨⟨d0, d1, d2, d3, d4⟩, -⟩ := box_of q1
  have HIX := Lib.hid (hix W1 hb1); have O1 := Lib.hid o1; have HX := Lib.hid hx1; have HB1 := Lib.hid hb1; have HP := Lib.hid hput; have HW1 := Lib.hid hW1; have HN := Lib.hid hn; have HLN := Lib.hid hln; have HRR := Lib.hid hRr
  have e4' : (w.alloc (.cells #[.int .i64 x0, .int .i64 x1, .string x2, .slice XA x3 xc, .slice XA' x4 xc'] 25)).cell? ⟨p, 4, none⟩ = some (.slice KA n kc) := by rw [← hW1]; exact e4
  clear hix o1 hx1 hR hx hb1 hput hn hi hln hlk hRr
  by_cases hin : i < n
  · have hie : (if i < n then (i : Int) else -1) = i := if_pos hin
    rw [hie] at HIX
    have t1 : decide ((0 : Int) ≤ (i : Int)) = true := by simp
    obtain ⟨g, rfl⟩ : ∃ g, LA = some ⟨g, 0, none⟩ := by
      rcases O1.out.rowL.2 with ⟨hv, h0⟩ | ⟨g, cap, cur, hv, _⟩
      · rw [HLN.out] at h0; omega
      · injection hv with e1 _ _; exact ⟨g, e1⟩
    have hj0 : (0 : Int) ≤ i := by omega
    have hj1 : (i : Int) < n := by omega
    obtain ⟨⟨u0, u1, u2, u3, u4, g0, g1, g2, g3, g4⟩, hfr⟩ : (∃ u0 u1 u2 u3 u4, W1.cell? ⟨g, i * 5, none⟩ = some u0 ∧ W1.cell? ⟨g, i * 5 + 1, none⟩ = some u1 ∧ W1.cell? ⟨g, i * 5 + 2, none⟩ = some u2 ∧ W1.cell? ⟨g, i * 5 + 3, none⟩ = some u3 ∧ W1.cell? ⟨g, i * 5 + 4, none⟩ = some u4) ∧ ∀ o, W1.frozen? ⟨g, o, none⟩ = false := by
      rcases O1.out.rowL.2 with ⟨hv, h0⟩ | ⟨g', cap, cur, hv, _, hg, hc, _, hcs, _⟩
      · cases hv
      · injection hv with e1 _ e3
        injection e1 with e1
        injection e1 with e1 _ _
        subst e1; subst e3
        rw [HLN.out] at hc
        exact ⟨five_of hg (by omega), fun o => frozen_here hg o⟩
    have fr0 := hfr (i * 5); have fr1 := hfr (i * 5 + 1); have fr2 := hfr (i * 5 + 2); have fr3 := hfr (i * 5 + 3); have fr4 := hfr (i * 5 + 4)
    clear hW1 hfr
    go_enter Tryd.func41, Tryd.ntmps41
    go_wp2_with (go_at_call 58; rw [← HW1.out]; (with_reducible refine (HIX.out).mono ?_); rintro e1 w1 ⟨rfl, rfl⟩; dsimp only; rw [HRR.out])
    go_region
    go_wp2
    obtain ⟨wf, hwf⟩ : ∃ wf, wf = set5 w1 g (i * 5) (.int .i64 x0) (.int .i64 x1) (.string x2) (.slice XA x3 xc) (.slice XA' x4 xc') := ⟨_, rfl⟩
    change bodyPost _ _ _ _ _ (set5 w1 g (i * 5) (.int .i64 x0) (.int .i64 x1) (.string x2) (.slice XA x3 xc) (.slice XA' x4 xc')).drew
    rw [← hwf]
    have hgB : B ≤ g := (O1.out.rowL.lt g rfl).1
    have o2 := O1.out
    have hx2 := HX.out
    rw [← HLN.out] at o2 hx2
    have o3 := o2.itemSet i (by rw [HLN.out]; exact hin) x hx2
    rw [← hwf] at o3
    have o4 := o3.keep (w' := wf.drew) ((Below.refl _ wf).drew)
    have hb2 : ButO B p w wf.drew := by
      have h1 : ButO B p w wf := by rw [hwf]; exact (ButO.of (HB1.out.mono hB)).set5 (.inl hgB) _ _ _ _ _
      exact h1.trans (ButO.of (Below.refl _ wf).drew)
    have O4 := Lib.hid o4; have HB2 := Lib.hid hb2
    clear o2 o3 o4 hx2 hb2 hwf
    refine bodyPost_end (v := .tuple #[]) (results_none rfl _ _ _) rfl ?_
    refine ⟨⟨_, rfl⟩, ⟨_, _, _, _, _, by rw [HP.out, if_pos hin], ?_, Nat.le_succ _, O4.out⟩, HB2.out⟩
    rw [List.length_set]; exact HLN.out.trans HN.out.symm
  · have hie : (if i < n then (i : Int) else -1) = -1 := if_neg hin
    rw [hie] at HIX
    obtain ⟨i0, hi, hz0, hz1, hz2⟩ := info_parts Tryd.infoValR
    obtain ⟨j0, hj, hy0, hy1, hy2⟩ := info_parts Tryd.infoStrR
    have hbk : Below W1.heap.size W1 (W1.alloc (.cells #[.string ⟨key.toArray⟩] 9)) := (Below.refl _ _).alloc (Nat.le_refl _) _
    have o2 := O1.out.keep hbk
    have rK := Lib.hid o2.rowK
    rw [HN.out] at rK
    have q2 := alloc_block (x := .cells #[.string ⟨key.toArray⟩] 9) q1
    have hnc := new_cells W1 #[.string ⟨key.toArray⟩] 9
    rw [z1] at hnc
    have NC := Lib.hid hnc
    clear hnc
    have O2 := Lib.hid o2; have Q2 := Lib.hid q2; have Z1 := Lib.hid z1
    clear hW1 hbk o2 q1 q2
    go_enter Tryd.func41, Tryd.ntmps41
    go_upto_region 4 with (go_at_call 58; rw [← HW1.out]; (with_reducible refine (HIX.out).mono ?_); rintro e1 w1 ⟨rfl, rfl⟩; dsimp only; rw [HRR.out])
    go_upto_region 5 with (at_builtin; refine wpList_append_opt rfl (.tmp 26) (.tmp 28) 23 rfl B 9 j0 _ 1 16 Tryd.underlying23 hj hy0 hy1 hy2 rfl (by decide) _ _ _ rfl rK.out (some ⟨_, 0, none⟩) 1 1 [.string ⟨key.toArray⟩] rfl rfl (.inr ⟨_, rfl, NC.out⟩) (by intro u hu; simp at hu; subst hu; rfl) (by unfold maxLen; omega) (by omega) (by have := Z1.out; have := HRR.out; simp; omega) ?_; intro v5 w5 hown hgrow hat; obtain ⟨KA5, kc5, rfl⟩ := own_form hown; have q5 := hgrow.block p (by have := O2.out.psize; exact this) (fun e => O2.out.farK e.symm); have q5' := q5.trans O2.out.var; obtain ⟨⟨p0, p1, p2, p3, p4⟩, r0, r1, r2, r3, r4⟩ := box_of q5')
    have o6 := O2.out.keysMore [key] (by rw [HN.out]; exact hown) hgrow hat
    obtain ⟨w6, hw6⟩ : ∃ w6, w6 = w5.setCell ⟨p, 4, none⟩ (.slice KA5 (n + 1) kc5) := ⟨_, rfl⟩
    rw [← hw6] at o6 ⊢
    have q6 : w6.heap[R]? = some (.cells #[.int .i64 x0, .int .i64 x1, .string x2, .slice XA x3 xc, .slice XA' x4 xc'] 25 (0, 0)) := by
      rw [hw6, set_there _ (by omega)]
      exact grown_block hgrow Q2.out (own_not rK.out Q2.out (by decide))
    have hx6 : ApV B w6 p (.slice LA n lc) (.slice KA5 (n + 1) kc5) x [.int .i64 x0, .int .i64 x1, .string x2, .slice XA x3 xc, .slice XA' x4 xc'] := by
      have h1 : ApV B (w1.alloc (.cells #[.string ⟨key.toArray⟩] 9)) p (.slice LA n lc) (.slice KA n kc) x [.int .i64 x0, .int .i64 x1, .string x2, .slice XA x3 xc, .slice XA' x4 xc'] := HX.out.step (fun g hg _ => Below.heap_alloc _ _ _ hg) (by simp) fun g _ h => h
      rw [hw6]
      refine h1.step (fun g hgs ⟨a1, a2, a3⟩ => (set_there _ a1).trans (hgrow.block g hgs fun e => a3 e.symm)) (by rw [set_size]; exact hgrow.size) fun g hgs ⟨a1, a2, a3⟩ => ⟨a1, a2, fun e => ?_⟩
      rcases hat with ha | ha
      · rw [ha] at e; exact a3 e
      · rw [ha] at e; injection e with e; omega
    have hb6 : ButO B p w w6 := by
      rw [hw6]
      exact ((((ButO.of (HB1.out.mono hB)).trans (ButO.of ((Below.refl _ _).alloc (by rw [Z1.out]; have := HRR.out; omega) _))).grown hgrow (by simp [Z1.out]; have := HRR.out; omega) (fun k hk => .inl (rK.out.lt k hk).1)).set (.inr rfl) _)
    have z6 : R < w6.heap.size := (Array.getElem?_eq_some_iff.1 q6).1
    have O6 := Lib.hid o6; have Q6 := Lib.hid q6; have HX6 := Lib.hid hx6; have HB6 := Lib.hid hb6
    clear o6 hx6 hb6 hown hgrow hat hw6 q5 q5' p0 p1 p2 p3 p4 r0 r1 r2 r3 r4 e0 e1 e2 e3 e4 f0 f1 f2 f3 f4 d0 d1 d2 d3 d4 HIX HW1 NC
    obtain ⟨⟨e0, e1, e2, e3, e4⟩, f0, f1, f2, f3, f4⟩ := box_of O6.out.var
    obtain ⟨⟨d0, d1, d2, d3, d4⟩, -⟩ := box_of q6
    have hba : Below w6.heap.size w6 (w6.alloc (.cells #[.int .i64 0, .int .i64 0, .string ⟨#[]⟩, .slice none 0 0, .slice none 0 0] 25)) := (Below.refl _ w6).alloc (Nat.le_refl _) _
    obtain ⟨⟨a0, a1, a2, a3, a4⟩, -⟩ := box_of (O6.out.keep hba).var
    obtain ⟨⟨b0, b1, b2, b3, b4⟩, -⟩ := box_of (blk_below q6 hba)
    clear hba
    have hn0 : (0 : Int) ≤ n := by omega
    have hn1 : (n : Int) < n + 1 := by omega
    have hbz : Below w6.heap.size w6 (w6.alloc (.cells #[.int .i64 0, .int .i64 0, .string ⟨#[]⟩, .slice none 0 0, .slice none 0 0] 25)).drew := ((Below.refl _ w6).alloc (Nat.le_refl _) _).drew
    have oz := O6.out.keep hbz
    have ncz : ∀ j u, [Value.int .i64 0, .int .i64 0, .string ⟨#[]⟩, .slice none 0 0, .slice none 0 0][j]? = some u → ((w6.alloc (.cells #[.int .i64 0, .int .i64 0, .string ⟨#[]⟩, .slice none 0 0, .slice none 0 0] 25)).drew).cell? ((⟨w6.heap.size, 0, none⟩ : Addr).add j) = some u := fun j u h => new_cells w6 #[.int .i64 0, .int .i64 0, .string ⟨#[]⟩, .slice none 0 0, .slice none 0 0] 25 j u h
    have rz := oz.rowL
    rw [HLN.out] at rz
    have hBz : B ≤ ((w6.alloc (.cells #[.int .i64 0, .int .i64 0, .string ⟨#[]⟩, .slice none 0 0, .slice none 0 0] 25)).drew).heap.size := by have := hbz.size; have := HRR.out; omega
    have RZ := Lib.hid rz; have NCZ := Lib.hid ncz; have OZ := Lib.hid oz; have BZ := Lib.hid hBz; have HBZ := Lib.hid hbz
    clear rz ncz oz hBz hbz
    go_region_law (first
      | (refine step_append_opt rfl (.tmp 35) (.tmp 38) 22 rfl B 25 i0 _ 5 80 Tryd.underlying22 hi hz0 hz1 hz2 rfl (by decide) _ _ xs rfl RZ.out (some ⟨w6.heap.size, 0, none⟩) 1 1 [.int .i64 0, .int .i64 0, .string ⟨#[]⟩, .slice none 0 0, .slice none 0 0] rfl rfl (.inr ⟨_, rfl, NCZ.out⟩) (by intro u hu; simp at hu; rcases hu with rfl | rfl | rfl | rfl | rfl <;> rfl) (by unfold maxLen; omega) (by omega) BZ.out ?_; intro v7 w7 hown hgrow hat; obtain ⟨g7, c7, rfl, hg7, ⟨u0, u1, u2, u3, u4, k0, k1, k2, k3, k4⟩, hfr⟩ := row_last hown; have fr0 := hfr (n * 5); have fr1 := hfr (n * 5 + 1); have fr2 := hfr (n * 5 + 2); have fr3 := hfr (n * 5 + 3); have fr4 := hfr (n * 5 + 4); clear hfr; obtain ⟨⟨s0, s1, s2, s3, s4⟩, t0, t1, t2, t3, t4⟩ := box_of ((hgrow.block p OZ.out.psize (fun e => OZ.out.far e.symm)).trans OZ.out.var); have hgp : g7 ≠ p := (fun e => far_of2 (X := _) hown hat OZ.out.far OZ.out.psize (by rw [e]; rfl)); have hpg : p ≠ g7 := Ne.symm hgp)
      | fail)
    all_goals
      have hxz : ApV B (w6.alloc (.cells #[.int .i64 0, .int .i64 0, .string ⟨#[]⟩, .slice none 0 0, .slice none 0 0] 25)).drew p (.slice LA n lc) (.slice KA5 (n + 1) kc5) x [.int .i64 x0, .int .i64 x1, .string x2, .slice XA x3 xc, .slice XA' x4 xc'] := HX6.out.step (fun g hg _ => HBZ.out.block g hg) HBZ.out.size fun g _ h => h
      have hgB : ∀ k, (Value.slice LA n lc).ownBlock = some k → B ≤ k ∨ k = p := fun k hk => .inl (RZ.out.lt k hk).1
      have hb7 : ButO B p w w7 := (HB6.out.trans (ButO.of (HBZ.out.mono (by have := HRR.out; omega)))).grown hgrow BZ.out hgB
      have oz := OZ.out
      rw [← HLN.out] at oz hxz hown hgrow hat
      first
        | (have o8 := oz.pushT x hxz hown hgrow hat
           have hb8 := (hb7.set5 (b := g7) (o := l.length * 5) (.inl hg7) (.int .i64 x0) (.int .i64 x1) (.string x2) (.slice XA x3 xc) (.slice XA' x4 xc')).set (b := p) (o := 3) (.inr rfl) (.slice (some ⟨g7, 0, none⟩) (l.length + 1) c7)
           rw [HLN.out] at o8 hb8
           obtain ⟨wf, hwf⟩ : ∃ wf, wf = (set5 w7 g7 (n * 5) (.int .i64 x0) (.int .i64 x1) (.string x2) (.slice XA x3 xc) (.slice XA' x4 xc')).setCell ⟨p, 3, none⟩ (.slice (some ⟨g7, 0, none⟩) (n + 1) c7) := ⟨_, rfl⟩
           rw [← hwf] at o8 hb8
           unfold set5 at hwf
           rw [← hwf]
           clear hwf
           have O8 := Lib.hid o8; have B8 := Lib.hid hb8
           clear o8 hb8 oz hxz hown hgrow hat hb7 hgB k0 k1 k2 k3 k4 fr0 fr1 fr2 fr3 fr4 s0 s1 s2 s3 s4 t0 t1 t2 t3 t4 a0 a1 a2 a3 a4 b0 b1 b2 b3 b4 e0 e1 e2 e3 e4 f0 f1 f2 f3 f4 d0 d1 d2 d3 d4
           refine bodyPost_end (v := .tuple #[]) (results_none rfl _ _ _) rfl ?_
           exact ⟨⟨_, rfl⟩, ⟨_, _, _, _, _, by rw [HP.out, if_neg hin], (by rw [List.length_append, List.length_append, HLN.out, HN.out]; rfl), by rw [List.length_append]; exact Nat.le_refl _, O8.out⟩, B8.out⟩)
        | (have o8 := oz.pushG x hxz hown hgrow hat
           have hb8 := (hb7.set (b := p) (o := 3) (.inr rfl) (.slice (some ⟨g7, 0, none⟩) (l.length + 1) c7)).set5 (b := g7) (o := l.length * 5) (.inl hg7) (.int .i64 x0) (.int .i64 x1) (.string x2) (.slice XA x3 xc) (.slice XA' x4 xc')
           rw [HLN.out] at o8 hb8
           obtain ⟨wf, hwf⟩ : ∃ wf, wf = set5 (w7.setCell ⟨p, 3, none⟩ (.slice (some ⟨g7, 0, none⟩) (n + 1) c7)) g7 (n * 5) (.int .i64 x0) (.int .i64 x1) (.string x2) (.slice XA x3 xc) (.slice XA' x4 xc') := ⟨_, rfl⟩
           rw [← hwf] at o8 hb8
           unfold set5 at hwf
           rw [← hwf]
           clear hwf
           have O8 := Lib.hid o8; have B8 := Lib.hid hb8
           clear o8 hb8 oz hxz hown hgrow hat hb7 hgB k0 k1 k2 k3 k4 fr0 fr1 fr2 fr3 fr4 s0 s1 s2 s3 s4 t0 t1 t2 t3 t4 a0 a1 a2 a3 a4 b0 b1 b2 b3 b4 e0 e1 e2 e3 e4 f0 f1 f2 f3 f4 d0 d1 d2 d3 d4
           refine bodyPost_end (v := .tuple #[]) (results_none rfl _ _ _) rfl ?_
           exact ⟨⟨_, rfl⟩, ⟨_, _, _, _, _, by rw [HP.out, if_neg hin], (by rw [List.length_append, List.length_append, HLN.out, HN.out]; rfl), by rw [List.length_append]; exact Nat.le_refl _, O8.out⟩, B8.out⟩)
end Go.Proofs.YtobicmpgfiddhaaDoor
namespace Go.Proofs.YtobicmpgfiddhaaDoor
open Go.RowKit
set_option linter.unusedVariables false
set_option linter.unusedSimpArgs false

/-- what holds of the list's memory behind so many items -/
structure LSt (R : Nat) (w wr : World) (lv : Value) (l : List V) (xs : List Value) : Prop where
  var : wr.heap[R]? = some (.cells #[.int .i64 5, .int .i64 0, .string ⟨#[]⟩, lv, .slice none 0 0] 25 (0, 0))
  rowL : wr.ownsRow (R + 1) 25 5 lv l.length xs
  elem : ∀ i (h : i < l.length), ∃ c0 c1 c2 c3 c4 L N, xs[i * 5]? = some c0 ∧ xs[i * 5 + 1]? = some c1 ∧ xs[i * 5 + 2]? = some c2 ∧ xs[i * 5 + 3]? = some c3 ∧ xs[i * 5 + 4]? = some c4 ∧
    VIs wr L N l[i] [c0, c1, c2, c3, c4] ∧ R + 1 ≤ L ∧ N ≤ wr.heap.size ∧ ∀ g, lv.ownBlock = some g → ¬ (L ≤ g ∧ g < N)
  low : Below R w wr
  size : R + 1 ≤ wr.heap.size
theorem LSt.later {R : Nat} {w wr w1 : World} {lv : Value} {l : List V} {xs : List Value} (h : LSt R w wr lv l xs) (hb : Below wr.heap.size wr w1) : LSt R w w1 lv l xs := by
  obtain ⟨h1, h3, h5, h6, h7⟩ := h
  refine ⟨(hb.block _ (by omega)).trans h1, own_below h3 hb, fun i hi => ?_, h6.trans (hb.mono (by omega)), Nat.le_trans h7 hb.size⟩
  obtain ⟨c0, c1, c2, c3, c4, L, N, e0, e1, e2, e3, e4, hv, hL, hN, hg⟩ := h5 i hi
  exact ⟨c0, c1, c2, c3, c4, L, N, e0, e1, e2, e3, e4, hv.below (hb.mono hN), hL, Nat.le_trans hN hb.size, hg⟩
/-- an item more: behind the append, and the store of the row -/
theorem LSt.item {R : Nat} {w wr w2 : World} {lv lv' : Value} {l : List V} {xs : List Value} {c0 c1 c2 c3 c4 : Value} {L0 N0 : Nat} (h : LSt R w wr lv l xs) (x : V)
    (hx : VIs wr L0 N0 x [c0, c1, c2, c3, c4]) (hx1 : R + 1 ≤ L0) (hx2 : N0 ≤ wr.heap.size) (hx3 : ∀ g, lv.ownBlock = some g → ¬ (L0 ≤ g ∧ g < N0))
    (hown : w2.ownsRow (R + 1) 25 5 lv' (l.length + 1) (xs ++ [c0, c1, c2, c3, c4])) (hg : wr.grownBy w2 lv.ownBlock) (hat : lv'.ownBlock = lv.ownBlock ∨ lv'.ownBlock = some wr.heap.size) :
    LSt R w (w2.setCell ⟨R, 3, none⟩ lv') lv' (l ++ [x]) (xs ++ [c0, c1, c2, c3, c4]) := by
  obtain ⟨h1, h3, h5, h6, h7⟩ := h
  have hlt := h3.lt
  have hsz := hg.size
  have hxl := h3.1
  have hblk : ∀ k, k < wr.heap.size → lv.ownBlock ≠ some k → k ≠ R → (w2.setCell ⟨R, 3, none⟩ lv').heap[k]? = wr.heap[k]? := fun k hk hne hk1 => (set_there _ hk1).trans (hg.block k hk (fun e => hne e.symm))
  have hR1 : w2.heap[R]? = wr.heap[R]? := hg.block _ (by omega) (fun e => by have := (hlt _ e.symm).1; omega)
  have hnew : ∀ {L N : Nat}, N ≤ wr.heap.size → (∀ g, lv.ownBlock = some g → ¬ (L ≤ g ∧ g < N)) → ∀ g, lv'.ownBlock = some g → ¬ (L ≤ g ∧ g < N) := fun hN hgg g e => by
    rcases hat with ha | ha
    · exact hgg g (by rw [← ha]; exact e)
    · rw [ha] at e; injection e with e; omega
  refine ⟨set_here (hR1.trans h1) _, ?_, fun i hi => ?_, ?_, by rw [set_size]; omega⟩
  · rw [List.length_append, List.length_singleton]
    exact own_kept hown (fun g hgk => set_there _ (by have := (hown.lt g hgk).1; omega))
  · rcases Nat.lt_or_ge i l.length with hil | hil
    · obtain ⟨d0, d1, d2, d3, d4, L, N, e0, e1, e2, e3, e4, hv, hL, hN, hgg⟩ := h5 i hil
      have hgl : (l ++ [x])[i] = l[i] := List.getElem_append_left hil
      rw [hgl]
      refine ⟨d0, d1, d2, d3, d4, L, N, ?_, ?_, ?_, ?_, ?_, hv.keep2 fun p hp1 hp2 => ?_, hL, by rw [set_size]; omega, hnew hN hgg⟩
      · rw [List.getElem?_append_left (by omega)]; exact e0
      · rw [List.getElem?_append_left (by omega)]; exact e1
      · rw [List.getElem?_append_left (by omega)]; exact e2
      · rw [List.getElem?_append_left (by omega)]; exact e3
      · rw [List.getElem?_append_left (by omega)]; exact e4
      · exact World.cell?_of_block (w := wr) (hblk p.block (by omega) (fun e => hgg _ e ⟨hp1, hp2⟩) (by omega))
    · have hie : i = l.length := by simp at hi; omega
      subst hie
      have hgl : (l ++ [x])[l.length] = x := by simp
      rw [hgl]
      refine ⟨c0, c1, c2, c3, c4, L0, N0, app_at hxl _ _ _ _ _ (k := 0) (by decide), app_at hxl _ _ _ _ _ (k := 1) (by decide), app_at hxl _ _ _ _ _ (k := 2) (by decide), app_at hxl _ _ _ _ _ (k := 3) (by decide), app_at hxl _ _ _ _ _ (k := 4) (by decide), hx.keep2 fun p hp1 hp2 => ?_, hx1, by rw [set_size]; omega, hnew hx2 hx3⟩
      exact World.cell?_of_block (w := wr) (hblk p.block (by omega) (fun e => hx3 _ e ⟨hp1, hp2⟩) (by omega))
  · exact (h6.trans ((Below.refl R wr).grown hg (by omega) (fun k hk => by have := (hlt k hk).1; omega))).setCell (p := ⟨R, 3, none⟩) (by show R ≤ R; omega) _
/-- the list, read -/
theorem LSt.done {R : Nat} {w wr : World} {lv : Value} {l : List V} {xs : List Value} (h : LSt R w wr lv l xs) (hl : l.length ≤ 9223372036854775807) :
    VIs wr (R + 1) wr.heap.size (.mk 5 0 [] l []) [.int .i64 5, .int .i64 0, .string ⟨#[]⟩, lv, .slice none 0 0] := by
  obtain ⟨h1, h3, h5, h6, h7⟩ := h
  obtain ⟨A, c, rfl, hA⟩ : ∃ A c, lv = .slice A l.length c ∧ (l = [] ∨ ∃ b o, A = some ⟨b, o, none⟩ ∧ LIs wr (R + 1) wr.heap.size l b o) := by
    have hc := fun g => World.ownsRow.cells (g := g) h3
    rcases h3.2 with ⟨hv, h0⟩ | ⟨g, cap, cur, hv, hB, hg, _⟩
    · exact ⟨none, 0, by rw [hv, h0], .inl (List.length_eq_zero_iff.1 h0)⟩
    · refine ⟨_, _, hv, .inr ⟨g, 0, rfl, LIs.of (by omega) (Array.getElem?_eq_some_iff.1 hg).1 fun i hi => ?_⟩⟩
      obtain ⟨c0, c1, c2, c3, c4, L, N, e0, e1, e2, e3, e4, hv', hL, hN, hgg⟩ := h5 i hi
      have hcc : ∀ j u, xs[j]? = some u → wr.cell? ⟨g, 0 + j, none⟩ = some u := fun j u hu => by
        have := hc g (by rw [hv]; rfl) j u hu
        rwa [Addr.add_lit] at this
      refine ⟨[c0, c1, c2, c3, c4], ⟨c0, c1, c2, c3, c4, rfl, hcc _ _ e0, hcc _ _ e1, hcc _ _ e2, hcc _ _ e3, hcc _ _ e4⟩, ?_⟩
      exact hv'.more (by omega) (by omega)
  exact VIs.mk (t := []) (ks := []) ⟨hl, by simp, by simp, by simp⟩ (.inl rfl) hA
theorem LSt.varL {R : Nat} {w wr w2 : World} {lv : Value} {l : List V} {xs : List Value} (h : LSt R w wr lv l xs) (hg : wr.grownBy w2 lv.ownBlock) :
    w2.heap[R]? = some (.cells #[.int .i64 5, .int .i64 0, .string ⟨#[]⟩, lv, .slice none 0 0] 25 (0, 0)) :=
  (hg.block _ (by have := h.size; omega) (fun e => by have := (h.rowL.lt _ e.symm).1; omega)).trans h.var
theorem LSt.start (w : World) : LSt w.heap.size w (w.alloc (.cells #[.int .i64 5, .int .i64 0, .string ⟨#[]⟩, .slice none 0 0, .slice none 0 0] 25)) (.slice none 0 0) [] [] :=
  ⟨heap_alloc_last w _, World.ownsRow_nil _ _ _ _, fun i h => absurd h (Nat.not_lt_zero _), (Below.refl _ _).alloc (Nat.le_refl _) _, by simp⟩
end Go.Proofs.YtobicmpgfiddhaaDoor
namespace Go.Proofs.YtobicmpgfiddhaaDoor
open Go.RowKit
set_option linter.unusedVariables false
set_option linter.unusedSimpArgs false

theorem word_is (w : World) (L N : Nat) (s : List UInt8) (hs : s.length ≤ 9223372036854775807) (S : ByteArray) (hS : S = ⟨s.toArray⟩) : VIs w L N (wordV s) [.int .i64 4, .int .i64 0, .string S, .slice none 0 0, .slice none 0 0] := by
  subst hS
  exact VIs.mk (w := w) (L := L) (N := N) (k := 4) (n := 0) (t := s) (l := []) (ks := []) (A := none) (A' := none) (c := 0) (c' := 0) ⟨by simp, by simp, hs, by simp⟩ (.inl rfl) (.inl rfl)
theorem word_eq {x : V} {d : Nat} (h4 : x.kind = 4) (hf : x.fits (d + 1) = true) : x = wordV x.text := by
  obtain ⟨k, n, t, l, ks⟩ := x
  have h4 : k = 4 := h4
  rw [fits_mk, Bool.and_eq_true] at hf
  have hb := hf.1
  unfold headB at hb
  simp only [Bool.and_eq_true, decide_eq_true_eq] at hb
  have hl : l = [] := List.length_eq_zero_iff.1 (hb.1.1.1.1.2 (by omega) (by omega))
  have hk : ks = [] := hb.1.2 (by omega)
  have hn : n = 0 := hb.1.1.1.1.1.1.2 (by omega) (by omega)
  subst hl; subst hk; subst hn; subst h4
  rfl
theorem pre_take (s p : List UInt8) : Lib.hasPrefix s p = decide (s.take p.length = p) := by
  unfold Lib.hasPrefix
  rw [Bool.eq_iff_iff, List.isPrefixOf_iff_prefix, decide_eq_true_eq, List.prefix_iff_eq_take]
  exact eq_comm
set_option maxRecDepth 100000 in
theorem textValue_any (s : ByteArray) (w : World) : Calls Tryd.prog 43 #[.string s] w fun e w' => e = .returned (.agg #[.int .i64 4, .int .i64 0, .string s, .slice none 0 0, .slice none 0 0]) ∧ Below w.heap.size w w' := by
  go_enter Tryd.func43, Tryd.ntmps43
  go_wp2
  refine bodyPost_ret (v := .agg #[.int .i64 4, .int .i64 0, .string s, .slice none 0 0, .slice none 0 0]) (by simp [results, Tryd.results43, go_sem]) rfl ?_
  exact ⟨rfl, (Below.refl _ _).alloc (Nat.le_refl _) _⟩
/-- what beginning has behind so many items -/
def begL (l : List V) (s : List UInt8) : List V := l.filter (fun x => decide (x.kind = 4) && decide (x.text.take s.length = s))
theorem begL_take (l : List V) (s : List UInt8) (k : Nat) (x : V) (h : l[k]? = some x) : begL (l.take (k + 1)) s = begL (l.take k) s ++ (if (decide (x.kind = 4) && decide (x.text.take s.length = s)) = true then [x] else []) := by
  unfold begL
  rw [List.take_add_one, h, List.filter_append]
  congr 1
  by_cases hc : (decide (x.kind = 4) && decide (x.text.take s.length = s)) = true
  · rw [if_pos hc]; simp only [Option.toList, List.filter_cons, List.filter_nil]; rw [if_pos hc]
  · rw [if_neg hc]; simp only [Option.toList, List.filter_cons, List.filter_nil]; rw [if_neg hc]
theorem begL_len (l : List V) (s : List UInt8) (k : Nat) : (begL (l.take k) s).length ≤ k := by
  unfold begL
  exact Nat.le_trans (List.length_filter_le _ _) (by rw [List.length_take]; omega)
set_option maxRecDepth 100000 in
set_option maxHeartbeats 8000000 in
theorem beginning_any (v : V) (s : List UInt8) (w : World) (L N : Nat) (cs : List Value) (hv : VIs w L N v cs) (hN : N ≤ w.heap.size) (hl : v.list.length ≤ 100000) (hx : ∀ x ∈ v.list, x.kind = 4 → x = wordV x.text) (S : ByteArray) (hS : S = ⟨s.toArray⟩) :
    Calls Tryd.prog 48 #[.agg cs.toArray, .string S] w fun e w' => (∃ ds, e = .returned (.agg ds.toArray) ∧ VIs w' w.heap.size w'.heap.size (listV (onlyL v s)) ds) ∧ Below w.heap.size w w' := by
  obtain ⟨vk, vn, vt, vl, vks⟩ := v
  have hx : ∀ x ∈ vl, x.kind = 4 → x = wordV x.text := hx
  have hl : vl.length ≤ 100000 := hl
  obtain ⟨hroom, A, c, A', c', rfl, h1, h2⟩ := hv.out
  obtain ⟨R, hRr⟩ : ∃ R, w.heap.size = R := ⟨_, rfl⟩
  obtain ⟨T, hT⟩ : ∃ T : ByteArray, (⟨vt.toArray⟩ : ByteArray) = T := ⟨_, rfl⟩
  obtain ⟨n, hn⟩ : ∃ n, vl.length = n := ⟨_, rfl⟩
  obtain ⟨m, hm⟩ : ∃ m, vks.length = m := ⟨_, rfl⟩
  rw [hT, hn, hm]
  have hn5 : n ≤ 100000 := by omega
  by_cases h5 : vk = 5
  · subst h5
    obtain ⟨i0, hi, hz0, hz1, hz2⟩ := info_parts Tryd.infoValR
    obtain ⟨W2, hW2⟩ : ∃ W2, W2 = (w.alloc (.cells #[.int .i64 5, .int .i64 vn, .string T, .slice A n c, .slice A' m c'] 25)).alloc (.cells #[.int .i64 0, .int .i64 0, .string ⟨#[]⟩, .slice none 0 0, .slice none 0 0] 25) := ⟨_, rfl⟩
    obtain ⟨P, hP⟩ : ∃ P, w.heap.size + 1 + 1 = P := ⟨_, rfl⟩
    have hp1 : R + 2 ≤ P := by omega
    have hp2 : P ≤ R + 2 := by omega
    have z2 : W2.heap.size = P := by rw [hW2]; simp [hRr]; omega
    have b2 : Below R w W2 := by rw [hW2, ← hRr]; exact ((Below.refl _ _).alloc (Nat.le_refl _) _).alloc (by simp) _
    have gst := LSt.start W2
    rw [z2] at gst
    have HX := Lib.hid hx; have H2 := Lib.hid h2; have HW2 := Lib.hid hW2; have HRR := Lib.hid hRr; have HP := Lib.hid hP; have B2 := Lib.hid b2; have HNN := Lib.hid hn; have HSS := Lib.hid hS; have G := Lib.hid gst
    clear hx h1 h2 hroom hv gst hW2 b2 hS hT hm z2
    rw [hRr] at hN
    clear hRr hn hP
    go_enter Tryd.func48, Tryd.ntmps48
    go_wp2_with fail
    rw [← HW2.out, HP.out, HRR.out]
    go_loopw [16] (fun i wr => ∃ (k : Nat) (lv : Value) (xs : List Value), k ≤ n ∧ i = .int .i64 k ∧ LSt P W2 wr lv (begL (vl.take k) s) xs) (fun i _ => n - (intOf i).toNat)
    case atStart => exact ⟨0, _, [], Nat.zero_le _, rfl, G.out⟩
    case round =>
      obtain ⟨k, lv, xs, hkn, rfl, gst⟩ := hrel
      obtain ⟨LA, lc, rfl⟩ := own_form gst.rowL
      have hbw : Below R w wr := B2.out.trans (gst.low.mono (by omega))
      have hsz := gst.size
      have hbl := begL_len vl s k
      by_cases hlt : k < n
      · have hkl : k < vl.length := by rw [HNN.out]; exact hlt
        have hxk := HX.out vl[k] (List.getElem_mem hkl)
        have hbt := begL_take vl s k vl[k] (List.getElem?_eq_getElem hkl)
        obtain ⟨q, r, rfl, _, hqN, ys, hx5, hxv⟩ := VIs.item H2.out k hkl
        generalize vl[k] = x at *
        have hx5' := hx5.keep hqN fun z hz => (hbw.mono (by omega)).cell hz
        obtain ⟨XA, xc, XA', xc', rfl⟩ := hxv.form
        obtain ⟨y0, y1, y2, y3, y4, hye, m0, m1, m2, m3, m4⟩ := hx5'
        simp only [List.cons.injEq, and_true] at hye
        obtain ⟨rfl, rfl, rfl, rfl, rfl⟩ := hye
        obtain ⟨TX, hTX⟩ : ∃ z : ByteArray, (⟨x.text.toArray⟩ : ByteArray) = z := ⟨_, rfl⟩
        obtain ⟨xk, hxkk⟩ : ∃ z, x.kind = z := ⟨_, rfl⟩
        have hxt : x.text.length ≤ 9223372036854775807 := by
          obtain ⟨a1, a2, a3, l, ks⟩ := x
          exact hxv.out.1.2.2.1
        rw [hTX] at m2
        rw [hxkk] at m0 hbt hxk
        have hpre : ∀ W, Calls Tryd.prog 62 #[.string TX, .string S] W fun e w' => e = .returned (.bool (decide (x.text.take s.length = s))) ∧ w' = W := fun W => by
          have := Tryd.strings_HasPrefix TX S W
          rw [← hTX, HSS.out, pre_take] at this
          rw [← hTX, HSS.out]
          simpa using this
        have hk0 : (0 : Int) ≤ k := by omega
        have hk1 : (k : Int) < n := by omega
        obtain ⟨t, ht⟩ : ∃ t, (begL (vl.take k) s).length = t := ⟨_, rfl⟩
        rw [ht] at gst
        have HPR := Lib.hid hpre; have HXT := Lib.hid hxt; have GS := Lib.hid gst; have HTX := Lib.hid hTX; have HXK := Lib.hid hxkk; have HBL := Lib.hid hbl
        have c3 : wr.cell? ⟨P, 3, none⟩ = some (.slice LA t lc) := cell_here gst.var
        have HT := Lib.hid ht
        clear hpre hxt gst hTX hxkk hx5 hxv hbl ht
        by_cases h4 : xk = 4
        · subst h4
          have HXW := Lib.hid (hxk rfl)
          by_cases hp : x.text.take s.length = s
          · rw [if_pos (by simp [hp])] at hbt
            have HBT := Lib.hid hbt
            rw [decide_eq_true hp] at HPR
            clear hbt hp hxk
            go_upto_region 8 with (go_at_call 62; (with_reducible refine (HPR.out _).mono ?_); rintro e1 w1 ⟨rfl, rfl⟩; dsimp only)
            obtain ⟨W1, hW1⟩ : ∃ W1, W1 = wr.alloc (.cells #[.int .i64 4, .int .i64 x.num, .string TX, .slice XA x.list.length xc, .slice XA' x.keys.length xc'] 25) := ⟨_, rfl⟩
            have b1 : Below wr.heap.size wr W1 := by rw [hW1]; exact (Below.refl _ _).alloc (Nat.le_refl _) _
            have z1 : W1.heap.size = wr.heap.size + 1 := by rw [hW1]; simp
            have q1 : W1.heap[wr.heap.size]? = some (.cells #[.int .i64 4, .int .i64 x.num, .string TX, .slice XA x.list.length xc, .slice XA' x.keys.length xc'] 25 (0, 0)) := by rw [hW1]; exact heap_alloc_last wr _
            rw [← hW1]
            have g1 := GS.out.later b1
            have st : ∀ W, Below W1.heap.size W1 W → W.cell? ⟨P, 3, none⟩ = some (.slice LA t lc) ∧ W.cell? ⟨wr.heap.size, 2, none⟩ = some (.string TX) := fun W hb =>
              ⟨cell_here (o := 3) (g1.later hb).var, by rw [cell_here (blk_below q1 hb)]; rfl⟩
            have rl : ∀ W, Below W1.heap.size W1 W → W.ownsRow (P + 1) 25 5 (.slice LA t lc) t xs := fun W hb => by have := (g1.later hb).rowL; rw [HT.out] at this; exact this
            have RL := Lib.hid rl
            have htk : t ≤ 100000 := by have := HBL.out; have := HT.out; omega
            clear rl
            obtain ⟨c3', c2'⟩ := st W1 (Below.refl _ _)
            have htv := fun W => textValue_any TX W
            have STH := Lib.hid st; have G1 := Lib.hid g1; have Z1 := Lib.hid z1; have HTV := Lib.hid htv
            clear st g1 z1 htv hW1 b1 c3 m0 m1 m2 m3 m4 q1
            go_region_law (first
              | (refine step_append_opt rfl (.tmp 30) (.tmp 34) 22 rfl (P + 1) 25 i0 _ 5 80 Tryd.underlying22 hi hz0 hz1 hz2 rfl (by decide) _ _ xs rfl (RL.out _ (hb1'.alloc hb1'.size _)) (some ⟨w1.heap.size, 0, none⟩) 1 1 [.int .i64 4, .int .i64 0, .string TX, .slice none 0 0, .slice none 0 0] rfl rfl (.inr ⟨_, rfl, new_cells _ #[_, _, _, _, _] _⟩) (by intro u hu; simp at hu; rcases hu with rfl | rfl | rfl | rfl | rfl <;> rfl) ?_ ?_ ?_ ?_; (· unfold maxLen; omega); (· omega); (· have := hb1'.size; have := Z1.out; simp; omega); intro v5 w5 hown hgrow hat; obtain ⟨A5, c5, rfl⟩ := own_form hown; obtain ⟨⟨e0, e1, e2, e3, e4⟩, f0, f1, f2, f3, f4⟩ := box_of ((G1.out.later (hb1'.alloc hb1'.size _)).varL hgrow))
              | (go_simp; go_at_call 43; (with_reducible refine (HTV.out _).mono ?_); rintro e1 w1 ⟨rfl, hb1⟩; have hb1' := (below_drew2 _ _ hb1); obtain ⟨k3, k2⟩ := STH.out w1 hb1'; obtain ⟨l3, l2⟩ := STH.out _ (hb1'.alloc hb1'.size (.cells #[.int .i64 4, .int .i64 0, .string TX, .slice none 0 0, .slice none 0 0] 25)); dsimp only))
            all_goals
              have hz1 := hb1'.size
              have zk := Z1.out
              have hl1 := G1.out.rowL.lt
              have g6 := (G1.out.later (hb1'.alloc hb1'.size (.cells #[.int .i64 4, .int .i64 0, .string TX, .slice none 0 0, .slice none 0 0] 25))).item (lv' := .slice A5 (t + 1) c5) (L0 := w1.heap.size) (N0 := w1.heap.size) (wordV x.text) (word_is _ _ _ x.text HXT.out TX HTX.out.symm) (by omega) (by simp) (fun g hg hh => by omega) (by rw [HT.out]; exact hown) hgrow hat
              rw [← HXW.out, ← HBT.out] at g6
              have G6 := Lib.hid g6
              clear g6 hown hgrow hat e0 e1 e2 e3 e4 f0 f1 f2 f3 f4 k3 k2 l3 l2 hb1 hb1' hz1 zk hl1
              go_wp2
              go_roundw
              case rel => exact ⟨k + 1, _, _, by omega, by go_num, G6.out⟩
              case measure => simp [intOf]; omega
          · rw [if_neg (by simp [hp]), List.append_nil] at hbt
            have HBT := Lib.hid hbt
            rw [decide_eq_false hp] at HPR
            clear hbt hp hxk
            go_wp2_with (go_at_call 62; (with_reducible refine (HPR.out _).mono ?_); rintro e1 w1 ⟨rfl, rfl⟩; dsimp only)
            have g2 := GS.out.later (w1 := wr.alloc (.cells #[.int .i64 4, .int .i64 x.num, .string TX, .slice XA x.list.length xc, .slice XA' x.keys.length xc'] 25)) ((Below.refl _ _).alloc (Nat.le_refl _) _)
            rw [← HBT.out] at g2
            go_roundw
            case rel => exact ⟨k + 1, _, _, by omega, by go_num, g2⟩
            case measure => simp [intOf]; omega
        · rw [if_neg (by simp [h4]), List.append_nil] at hbt
          have t4 : (xk == 4) = false := by simpa using h4
          have HBT := Lib.hid hbt
          clear hbt hxk
          go_wp2
          have g2 := GS.out.later (w1 := wr.alloc (.cells #[.int .i64 xk, .int .i64 x.num, .string TX, .slice XA x.list.length xc, .slice XA' x.keys.length xc'] 25)) ((Below.refl _ _).alloc (Nat.le_refl _) _)
          rw [← HBT.out] at g2
          go_roundw
          case rel => exact ⟨k + 1, _, _, by omega, by go_num, g2⟩
          case measure => simp [intOf]; omega
      · obtain rfl : k = n := by omega
        have hgd := gst.done (by omega)
        have hall : vl.take k = vl := by rw [← HNN.out, List.take_length]
        obtain ⟨⟨e0, e1, e2, e3, e4⟩, -⟩ := box_of gst.var
        have hres : wr.heap[R + 1]? = some (.cells #[.int .i64 0, .int .i64 0, .string ⟨#[]⟩, .slice none 0 0, .slice none 0 0] 25 (0, 0)) :=
          (gst.low.block (R + 1) (by omega)).trans (by rw [HW2.out]; exact fresh_at _ (by simp [HRR.out]))
        obtain ⟨⟨d0, d1, d2, d3, d4⟩, f0, f1, f2, f3, f4⟩ := box_of hres
        obtain ⟨t, ht⟩ : ∃ t, (begL (vl.take k) s).length = t := ⟨_, rfl⟩
        rw [ht] at hgd e3
        have hol : onlyL (.mk 5 vn vt vl vks) s = begL (vl.take k) s := by rw [hall]; exact if_pos rfl
        have HGD := Lib.hid hgd; have HOL := Lib.hid hol; have HBW := Lib.hid hbw; have HRS := Lib.hid hres
        clear hgd hol gst hall hbl
        go_wp2
        obtain ⟨wf, hwf⟩ : ∃ wf, wf = set5 wr (R + 1) 0 (.int .i64 5) (.int .i64 0) (.string ⟨#[]⟩) (.slice LA t lc) (.slice none 0 0) := ⟨_, rfl⟩
        change bodyPost _ _ _ _ _ (set5 wr (R + 1) 0 (.int .i64 5) (.int .i64 0) (.string ⟨#[]⟩) (.slice LA t lc) (.slice none 0 0))
        rw [← hwf]
        have hx : wf.heap[R + 1]? = some (.cells #[.int .i64 5, .int .i64 0, .string ⟨#[]⟩, .slice LA t lc, .slice none 0 0] 25 (0, 0)) := by rw [hwf]; exact set5_here HRS.out
        have hvf : VIs wf w.heap.size wf.heap.size (listV (begL (vl.take k) s)) [.int .i64 5, .int .i64 0, .string ⟨#[]⟩, .slice LA t lc, .slice none 0 0] := by
          rw [hwf, set5_size]
          exact (HGD.out.keep2 fun q h1 h2 => World.cell?_of_block (w := wr) (set5_there (by omega))).more (by have := HRR.out; omega) (Nat.le_refl _)
        have hbf : Below w.heap.size w wf := by
          rw [hwf, HRR.out]; exact HBW.out.trans (set5_below (by omega))
        obtain ⟨⟨x0, x1, x2, x3, x4⟩, -⟩ := box_of hx
        have HVF := Lib.hid hvf; have HBF := Lib.hid hbf
        clear hvf hbf hwf hx e0 e1 e2 e3 e4 d0 d1 d2 d3 d4 f0 f1 f2 f3 f4
        refine bodyPost_ret (v := .agg #[.int .i64 5, .int .i64 0, .string ⟨#[]⟩, .slice LA t lc, .slice none 0 0]) (by simp [results, Tryd.results48, go_sem, x0, x1, x2, x3, x4]) rfl ?_
        exact ⟨⟨[_, _, _, _, _], rfl, by rw [HOL.out]; exact HVF.out⟩, HBF.out⟩
  · have hne : onlyL (.mk vk vn vt vl vks) s = [] := if_neg h5
    have t1 : (vk != 5) = true := by simpa using h5
    rw [hne]
    clear hx h1 h2 hroom hv hRr
    go_enter Tryd.func48, Tryd.ntmps48
    go_wp2
    refine bodyPost_ret (v := .agg #[.int .i64 5, .int .i64 0, .string ⟨#[]⟩, .slice none 0 0, .slice none 0 0]) (by simp [results, Tryd.results48, go_sem]) rfl ?_
    refine ⟨⟨[_, _, _, _, _], rfl, ?_⟩, ?_⟩
    · exact VIs.mk (k := 5) (n := 0) (t := []) (l := []) (ks := []) (A := none) (A' := none) (c := 0) (c' := 0) ⟨by simp, by simp, by simp, by simp⟩ (.inl rfl) (.inl rfl)
    · exact (((Below.refl w.heap.size w).alloc (Nat.le_refl _) _).alloc (by rw [World.size_alloc]; exact Nat.le_succ _) _).alloc (by rw [World.size_alloc, World.size_alloc]; exact Nat.le_trans (Nat.le_succ _) (Nat.le_succ _)) _
end Go.Proofs.YtobicmpgfiddhaaDoor
namespace Go.Proofs.YtobicmpgfiddhaaDoor
open Go.RowKit
set_option linter.unusedVariables false
set_option linter.unusedSimpArgs false

theorem isW_k {x : V} {s : List UInt8} (h : x.kind ≠ 4) : isW x s = false := by unfold isW; simp [h]
theorem isW_t {x : V} {s : List UInt8} (h : x.kind = 4) : isW x s = decide (x.text = s) := by unfold isW; simp [h]
theorem ba_eq (a b : List UInt8) : ((⟨a.toArray⟩ : ByteArray).toList == (⟨b.toArray⟩ : ByteArray).toList) = decide (a = b) := by
  rw [ByteArray.toList_eq, ByteArray.toList_eq]
  show (a == b) = _
  by_cases h : a = b <;> simp [h]
theorem any_take {l : List V} {p : V → Bool} {k : Nat} {x : V} (h : l[k]? = some x) : (l.take (k + 1)).any p = ((l.take k).any p || p x) := by
  rw [List.take_add_one, h, List.any_append]
  simp
theorem any_hit {l : List V} {p : V → Bool} {k : Nat} (hk : k < l.length) (h : p l[k] = true) : l.any p = true := List.any_eq_true.2 ⟨_, List.getElem_mem hk, h⟩
set_option maxRecDepth 100000 in
set_option maxHeartbeats 4000000 in
theorem tells1_any (x : V) (s : List UInt8) (W : World) (L N : Nat) (cs : List Value) (hv : VIs W L N x cs) (b : Nat) (hb : W.cell? ⟨b, 0, none⟩ = some (.string ⟨s.toArray⟩)) (hbs : b < W.heap.size) :
    Calls Tryd.prog 60 #[.agg cs.toArray, .pointer (some ⟨b, 0, none⟩)] W fun e w' => e = .returned (.bool (isW x s)) ∧ Below W.heap.size W w' := by
  obtain ⟨XA, xc, XA', xc', rfl⟩ := hv.form
  have hq := ba_eq x.text s
  have hk4 := @isW_k x s
  have ht4 := @isW_t x s
  obtain ⟨S, hS⟩ : ∃ z : ByteArray, (⟨s.toArray⟩ : ByteArray) = z := ⟨_, rfl⟩
  obtain ⟨TX, hTX⟩ : ∃ z : ByteArray, (⟨x.text.toArray⟩ : ByteArray) = z := ⟨_, rfl⟩
  obtain ⟨xk, hxk⟩ : ∃ z, x.kind = z := ⟨_, rfl⟩
  rw [hS] at hb hq
  rw [hTX] at hq ⊢
  rw [hxk] at hk4 ht4 ⊢
  have hb2 : (W.alloc (.cells #[.int .i64 xk, .int .i64 x.num, .string TX, .slice XA x.list.length xc, .slice XA' x.keys.length xc'] 25)).cell? ⟨b, 0, none⟩ = some (.string S) := by
    rw [World.cell?_of_block (w := W) (Below.heap_alloc _ _ _ hbs)]; exact hb
  obtain ⟨R, hR⟩ : ∃ r, isW x s = r := ⟨_, rfl⟩
  rw [hR] at hk4 ht4 ⊢
  have HK := Lib.hid hk4; have HT := Lib.hid ht4
  clear hk4 ht4 hS hTX hxk hR hv
  by_cases h4 : xk = 4
  · subst h4
    have hr := HT.out rfl
    rw [← hr] at hq
    have t1 : ((4 : Int) == 4) = true := rfl
    clear hr
    go_enter Tryd.func60, Tryd.ntmps60
    go_wp2
    go_ret
    exact ⟨rfl, (Below.refl _ _).alloc (Nat.le_refl _) _⟩
  · have hr := HK.out h4
    subst hr
    have t1 : (xk == 4) = false := by simpa using h4
    go_enter Tryd.func60, Tryd.ntmps60
    go_wp2
    go_ret
    exact ⟨rfl, (Below.refl _ _).alloc (Nat.le_refl _) _⟩
set_option maxRecDepth 100000 in
set_option maxHeartbeats 4000000 in
theorem indexFuncV_any (l : List V) (s : List UInt8) (A : Option Addr) (c L N : Nat) (w : World) (hl : l = [] ∨ ∃ b o, A = some ⟨b, o, none⟩ ∧ LIs w L N l b o) (hN : N ≤ w.heap.size) (hll : l.length ≤ 100000) (b : Nat) (hb : w.cell? ⟨b, 0, none⟩ = some (.string ⟨s.toArray⟩)) (hbs : b < w.heap.size) :
    Calls Tryd.prog 73 #[.slice A l.length c, .func (.func 60) #[] #[.pointer (some ⟨b, 0, none⟩)]] w fun e w' => (∃ i : Int, e = .returned (.int .i64 i) ∧ decide (0 ≤ i) = l.any (isW · s)) ∧ Below w.heap.size w w' := by
  obtain ⟨n, hn⟩ : ∃ n, l.length = n := ⟨_, rfl⟩
  have hcl := fun (x : V) (W : World) (cs : List Value) (hW : Below w.heap.size w W) (hv : VIs W L N x cs) => tells1_any x s W L N cs hv b ((hW.cell (p := ⟨b, 0, none⟩) hbs).trans hb) (by have := hW.size; omega)
  rw [hn]
  have H := Lib.hid hl; have HC := Lib.hid hcl; have HN := Lib.hid hn
  clear hl hcl hb
  go_enter Tryd.func73, Tryd.ntmps73
  go_wp2_with fail
  go_loopw [8] (fun i wr => ∃ k : Nat, k ≤ n ∧ i = .int .i64 k ∧ (l.take k).any (isW · s) = false ∧ Below w.heap.size w wr) (fun i _ => n - (intOf i).toNat)
  case atStart => exact ⟨0, Nat.zero_le _, rfl, rfl, Below.refl _ _⟩
  case round =>
    obtain ⟨k, hkn, rfl, hp, hbw⟩ := hrel
    have HP := Lib.hid hp; clear hp
    by_cases hlt : k < n
    · have hkl : k < l.length := by rw [HN.out]; exact hlt
      obtain ⟨q, r, rfl, _, hqN, ys, hx5, hxv⟩ := VIs.item H.out k hkl
      have hat := any_take (p := (isW · s)) (List.getElem?_eq_getElem hkl)
      have hhit := any_hit (p := (isW · s)) hkl
      have hx5' := hx5.keep hqN fun z hz => (hbw.mono hN).cell hz
      have hxv' := hxv.below (hbw.mono hN)
      obtain ⟨XA, xc, XA', xc', rfl⟩ := hxv'.form
      obtain ⟨y0, y1, y2, y3, y4, hye, m0, m1, m2, m3, m4⟩ := hx5'
      simp only [List.cons.injEq, and_true] at hye
      obtain ⟨rfl, rfl, rfl, rfl, rfl⟩ := hye
      have hc := HC.out l[k] wr _ hbw hxv'
      generalize l[k] = x at *
      have hk0 : (0 : Int) ≤ k := by omega
      have hk1 : (k : Int) < n := by omega
      obtain ⟨Z, hZ⟩ : ∃ z, isW x s = z := ⟨_, rfl⟩
      rw [hZ] at hc hat hhit
      have HCC := Lib.hid hc; have HAT := Lib.hid hat; have HH := Lib.hid hhit; have HBW := Lib.hid hbw
      clear hc hat hhit hxv hxv' hx5 hZ hbw
      cases Z with
      | true =>
        go_wp2_with (go_at_call 60; (with_reducible refine HCC.out.mono ?_); rintro e1 w1 ⟨rfl, hb1⟩; have HB1 := Lib.hid (HBW.out.chain hb1); clear hb1; dsimp only)
        go_ret
        exact ⟨⟨k, rfl, by rw [HH.out trivial]; simp⟩, HB1.out⟩
      | false =>
        go_wp2_with (go_at_call 60; (with_reducible refine HCC.out.mono ?_); rintro e1 w1 ⟨rfl, hb1⟩; have HB1 := Lib.hid (HBW.out.chain hb1); clear hb1; dsimp only)
        go_roundw
        case rel => exact ⟨k + 1, by omega, by go_num, by rw [HAT.out, HP.out]; rfl, HB1.out⟩
        case measure => simp [intOf]; omega
    · obtain rfl : k = n := by omega
      have hall : l.take k = l := by rw [← HN.out, List.take_length]
      have HA := Lib.hid hall; have HBW := Lib.hid hbw
      clear hall hbw
      go_wp2
      go_ret
      exact ⟨⟨-1, rfl, by rw [← HA.out, HP.out]; rfl⟩, HBW.out⟩
set_option maxRecDepth 100000 in
set_option maxHeartbeats 4000000 in
theorem containsFuncV_any (l : List V) (s : List UInt8) (A : Option Addr) (c L N : Nat) (w : World) (hl : l = [] ∨ ∃ b o, A = some ⟨b, o, none⟩ ∧ LIs w L N l b o) (hN : N ≤ w.heap.size) (hll : l.length ≤ 100000) (b : Nat) (hb : w.cell? ⟨b, 0, none⟩ = some (.string ⟨s.toArray⟩)) (hbs : b < w.heap.size) :
    Calls Tryd.prog 61 #[.slice A l.length c, .func (.func 60) #[] #[.pointer (some ⟨b, 0, none⟩)]] w fun e w' => e = .returned (.bool (l.any (isW · s))) ∧ Below w.heap.size w w' := by
  have h := indexFuncV_any l s A c L N w hl hN hll b hb hbs
  obtain ⟨B, hB⟩ : ∃ B, l.any (isW · s) = B := ⟨_, rfl⟩
  rw [hB] at h ⊢
  have H := Lib.hid h
  clear h hl hb hB
  go_enter Tryd.func61, Tryd.ntmps61
  go_wp2_with (go_at_call 73; (with_reducible refine H.out.mono ?_); rintro e1 w1 ⟨⟨i, rfl, hi⟩, hb1⟩; have HB1 := Lib.hid hb1; have HI := Lib.hid hi; clear hb1 hi; dsimp only)
  go_ret
  exact ⟨ret_bool HI.out, HB1.out⟩
theorem need_w {v : V} {s : List UInt8} (h : isW v s = true) : needB v s = true := by unfold needB; rw [h]; rfl
theorem need_5 {v : V} {s : List UInt8} (h : isW v s = false) (h5 : v.kind = 5) : needB v s = v.list.any (isW · s) := by unfold needB; rw [h, h5]; rfl
theorem need_o {v : V} {s : List UInt8} (h : isW v s = false) (h5 : v.kind ≠ 5) : needB v s = false := by unfold needB; rw [h]; simp [h5]
set_option maxRecDepth 100000 in
set_option maxHeartbeats 4000000 in
theorem tells_any (v : V) (s : List UInt8) (w : World) (L N : Nat) (cs : List Value) (hv : VIs w L N v cs) (hN : N ≤ w.heap.size) (hll : v.list.length ≤ 100000) :
    Calls Tryd.prog 46 #[.agg cs.toArray, .string ⟨s.toArray⟩] w fun e w' => e = .returned (.bool (needB v s)) ∧ Below w.heap.size w w' := by
  obtain ⟨vk, vn, vt, vl, vks⟩ := v
  obtain ⟨_, A, c, A', c', rfl, h1, h2⟩ := hv.out
  have hll : vl.length ≤ 100000 := hll
  have hnw := @need_w (.mk vk vn vt vl vks) s
  have hn5 := @need_5 (.mk vk vn vt vl vks) s
  have hno := @need_o (.mk vk vn vt vl vks) s
  obtain ⟨S, hS⟩ : ∃ z : ByteArray, z = ⟨s.toArray⟩ := ⟨_, rfl⟩
  obtain ⟨T, hT⟩ : ∃ z : ByteArray, z = ⟨vt.toArray⟩ := ⟨_, rfl⟩
  rw [← hS, ← hT]
  rw [← hT] at hv
  obtain ⟨W2, hW2⟩ : ∃ W2, W2 = (w.alloc (.cells #[.int .i64 vk, .int .i64 vn, .string T, .slice A vl.length c, .slice A' vks.length c'] 25)).alloc (.cells #[.string S] 9) := ⟨_, rfl⟩
  have b2 : Below w.heap.size w W2 := by rw [hW2]; exact ((Below.refl _ _).alloc (Nat.le_refl _) _).alloc (by simp) _
  have z2 : W2.heap.size = w.heap.size + 2 := by rw [hW2]; simp
  have q2 : W2.heap[w.heap.size]? = some (.cells #[.int .i64 vk, .int .i64 vn, .string T, .slice A vl.length c, .slice A' vks.length c'] 25 (0, 0)) := by rw [hW2]; exact alloc_block (heap_alloc_last w _)
  have s2 : W2.heap[w.heap.size + 1]? = some (.cells #[.string S] 9 (0, 0)) := by rw [hW2]; exact fresh_at _ (by simp)
  have hc1 := fun W (hW : Below W2.heap.size W2 W) => tells1_any (.mk vk vn vt vl vks) s W L N _ (hv.below ((b2.chain hW).mono hN)) (w.heap.size + 1) (by rw [cell_here (blk_below s2 hW), ← hS]; rfl) (by have := hW.size; omega)
  have hc2 := fun W (hW : Below W2.heap.size W2 W) => containsFuncV_any vl s A c L N W (by
    rcases h2 with h | ⟨b, o, e, h⟩
    · exact .inl h
    · exact .inr ⟨b, o, e, h.below ((b2.chain hW).mono hN)⟩) (by have := hW.size; omega) hll (w.heap.size + 1) (by rw [cell_here (blk_below s2 hW), ← hS]; rfl) (by have := hW.size; omega)
  have hbx := fun W (hW : Below W2.heap.size W2 W) => (box_of (blk_below q2 hW)).1
  obtain ⟨n, hn⟩ : ∃ n, vl.length = n := ⟨_, rfl⟩
  obtain ⟨m, hm⟩ : ∃ m, vks.length = m := ⟨_, rfl⟩
  rw [hn, hm] at hW2 hbx hc1 ⊢
  rw [hn] at hc2
  obtain ⟨NB, hNB⟩ : ∃ B, needB (.mk vk vn vt vl vks) s = B := ⟨_, rfl⟩
  obtain ⟨IW, hIW⟩ : ∃ B, isW (.mk vk vn vt vl vks) s = B := ⟨_, rfl⟩
  obtain ⟨AN, hAN⟩ : ∃ B, vl.any (isW · s) = B := ⟨_, rfl⟩
  rw [hNB, hIW] at hnw hn5 hno
  rw [hIW] at hc1
  rw [hNB]
  have hn5 : IW = false → vk = 5 → NB = AN := fun h1 h2 => (hn5 h1 h2).trans hAN
  have hno : IW = false → vk ≠ 5 → NB = false := hno
  rw [hAN] at hc2
  have HW2 := Lib.hid hW2; have B2 := Lib.hid b2; have HC1 := Lib.hid hc1; have HC2 := Lib.hid hc2; have HBX := Lib.hid hbx; have HNW := Lib.hid hnw; have HN5 := Lib.hid hn5; have HNO := Lib.hid hno
  clear hW2 b2 z2 q2 s2 hc1 hc2 hbx hn hm hNB hIW hAN hnw hn5 hno hv h1 h2 hS hT
  cases IW with
  | true =>
    obtain rfl := HNW.out rfl
    go_enter Tryd.func46, Tryd.ntmps46
    go_wp2_with (go_at_call 60; rw [← HW2.out]; (with_reducible refine (HC1.out _ (Below.refl _ _)).mono ?_); rintro e1 w1 ⟨rfl, hb1⟩; have HB1 := Lib.hid (B2.out.chain hb1); clear hb1; dsimp only)
    go_ret
    exact ⟨rfl, HB1.out⟩
  | false =>
    by_cases h5 : vk = 5
    · subst h5
      obtain rfl := HN5.out rfl rfl
      have t1 : ((5 : Int) == 5) = true := rfl
      go_enter Tryd.func46, Tryd.ntmps46
      go_wp2_with (first
        | (go_at_call 60; rw [← HW2.out]; (with_reducible refine (HC1.out _ (Below.refl _ _)).mono ?_); rintro e1 w1 ⟨rfl, hb1⟩; have HB1 := Lib.hid hb1; obtain ⟨a0, a1, a2, a3, a4⟩ := HBX.out w1 hb1; clear hb1; dsimp only)
        | (go_at_call 61; (with_reducible refine (HC2.out _ HB1.out).mono ?_); rintro e2 w2 ⟨rfl, hb2⟩; have HB2 := Lib.hid (B2.out.chain (HB1.out.chain hb2)); clear hb2; dsimp only))
      go_ret
      exact ⟨rfl, HB2.out⟩
    · have t1 : (vk == 5) = false := by simpa using h5
      obtain rfl := HNO.out rfl h5
      go_enter Tryd.func46, Tryd.ntmps46
      go_wp2_with (go_at_call 60; rw [← HW2.out]; (with_reducible refine (HC1.out _ (Below.refl _ _)).mono ?_); rintro e1 w1 ⟨rfl, hb1⟩; have HB1 := Lib.hid (B2.out.chain hb1); obtain ⟨a0, a1, a2, a3, a4⟩ := HBX.out w1 hb1; clear hb1; dsimp only)
      go_ret
      exact ⟨rfl, HB1.out⟩
end Go.Proofs.YtobicmpgfiddhaaDoor
namespace Go.Proofs.YtobicmpgfiddhaaDoor
open Go.RowKit
set_option linter.unusedVariables false
set_option linter.unusedSimpArgs false

theorem Tryd.infoValue : (Tryd.prog.info? 25).map (fun i => (i.zero, i.size, i.bytes)) = some (some (.agg #[.int .i64 0, .int .i64 0, .string ⟨#[]⟩, .slice none 0 0, .slice none 0 0]), 5, 80) := by kernel_rfl
/-- a row of values of the call's own, in block g -/
def VRow (w : World) (B g nl : Nat) : Prop := B ≤ g ∧ g < w.heap.size ∧ ∃ C : Array Value, w.heap[g]? = some (.cells C 25 (0, 0)) ∧ nl * 5 ≤ C.size
set_option maxRecDepth 100000 in
set_option maxHeartbeats 1000000 in
theorem cloneV_any (l : List V) (A : Option Addr) (c L N : Nat) (w : World) (hl : l.length ≤ 1000000) (hN : N ≤ w.heap.size) (h : l = [] ∨ ∃ b o, A = some ⟨b, o, none⟩ ∧ LIs w L N l b o) :
    Calls Tryd.prog 72 #[.slice A l.length c] w fun e w' => (∃ A' c', e = .returned (.slice A' l.length c') ∧ (l = [] ∨ ∃ g, A' = some ⟨g, 0, none⟩ ∧ VRow w' w.heap.size g l.length)) ∧ Below w.heap.size w w' := by
  obtain ⟨i0, hi, hz0, hz1, hz2⟩ := info_parts Tryd.infoValue
  have heq := fun (W : World) (a : Option Addr) (n c : Nat) => Lib.run_eql_slice_nil (P := Tryd.prog) W 22 25 a n c 0 0 Tryd.underlying22
  cases A with
  | none =>
    have hl0 : l = [] := by
      rcases h with h | ⟨b, o, e, _⟩
      · exact h
      · cases e
    subst hl0
    have heq0 := fun (W : World) => heq W none 0 c
    simp only [Option.isNone_none] at heq0
    show Calls Tryd.prog _ #[.slice none 0 c] w _
    clear heq h
    go_enter Tryd.func72, Tryd.ntmps72
    go_wp2
    go_ret
    exact ⟨⟨none, 0, rfl, .inl trivial⟩, Below.refl _ _⟩
  | some a =>
    obtain ⟨news, n1, n2, n3⟩ : ∃ news : List Value, news.length = l.length * 5 ∧ (∀ (o : Obj) j u, news[j]? = some u → (w.alloc o).cell? (a.add j) = some u) ∧ ∀ u ∈ news, u.oneCell' = true := by
      rcases h with rfl | ⟨b, o, e, h⟩
      · exact ⟨[], rfl, by simp, by simp⟩
      · obtain ⟨news, n1, n2, n3⟩ := h.flat
        injection e with e; subst e
        refine ⟨news, n1, ?_, n3⟩
        intro ob j u hu
        have h2 := n2 j u hu
        rw [Addr.add_lit]
        refine (((Below.refl w.heap.size w).alloc (Nat.le_refl _) ob).cell (p := ⟨b, o + j, none⟩) ?_).trans h2
        show b < w.heap.size
        refine Nat.lt_of_not_le fun hle => ?_
        have : w.cell? ⟨b, o + j, none⟩ = none := by simp [World.cell?, Array.getElem?_eq_none hle]
        rw [this] at h2; cases h2
    obtain ⟨nl, hnl⟩ : ∃ nl, l.length = nl := ⟨_, rfl⟩
    have NL := Lib.hid hnl
    rw [hnl] at hl n1 ⊢
    clear hnl h
    go_enter Tryd.func72, Tryd.ntmps72
    have hown : (w.alloc (.cells #[] 25)).ownsRow w.heap.size 25 5 (.slice (some ⟨w.heap.size, 0, none⟩) 0 0) 0 [] := ⟨by simp, Or.inr ⟨w.heap.size, 0, #[], rfl, Nat.le_refl _, heap_alloc_last w _, Nat.le_refl _, by unfold maxLen; decide, by simp, by simp⟩⟩
    go_wp2_with (at_builtin; refine wpList_append_own _ rfl (.tmp 5) (.tmp 6) 22 rfl w.heap.size 25 i0 _ 5 80 Tryd.underlying22 hi hz0 hz1 hz2 rfl (by decide) _ _ _ rfl hown a nl c news rfl n1 (n2 _) n3 (by unfold maxLen; omega) (by omega) (by simp) ?_)
    intro v' w1 hown' hg' _
    have hb1 : Below w.heap.size w w1 := ((Below.refl w.heap.size w).alloc (Nat.le_refl _) _).grown hg' (by simp) (fun j hj => (hown.lt j hj).1)
    obtain ⟨A', c', rfl, hr⟩ : ∃ A' c', v' = .slice A' nl c' ∧ (l = [] ∨ ∃ g, A' = some ⟨g, 0, none⟩ ∧ VRow w1 w.heap.size g nl) := by
      rcases hown'.2 with ⟨rfl, h0⟩ | ⟨g, cap, cur, rfl, hB, hg, h1, h2, h3, h4⟩
      · have : nl = 0 := by omega
        subst this
        exact ⟨none, 0, rfl, .inl (List.length_eq_zero_iff.1 NL.out)⟩
      · refine ⟨_, _, rfl, .inr ⟨g, rfl, hB, (Array.getElem?_eq_some_iff.1 hg).1, cur, hg, by omega⟩⟩
    go_wp2
    go_ret
    exact ⟨⟨_, _, rfl, hr⟩, hb1⟩
end Go.Proofs.YtobicmpgfiddhaaDoor
