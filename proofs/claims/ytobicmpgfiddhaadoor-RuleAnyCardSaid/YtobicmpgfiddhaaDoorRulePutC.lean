/- The landed rules: put. -/
import Derived.Test.YtobicmpgfiddhaaDoorRuleOut
import Derived.Deep.RegionLaw
import Derived.Deep.RegionWith
import Derived.Deep.Cut
namespace Go.Proofs.YtobicmpgfiddhaaDoor
open Go.RowKit
set_option linter.unusedVariables false
set_option linter.unusedSimpArgs false

/-- the last of a row of values, by its cells -/
theorem row_last {w : World} {B n : Nat} {v : Value} {ys : List Value} (h : w.ownsRow B 25 5 v (n + 1) ys) : ∃ g c, v = .slice (some ⟨g, 0, none⟩) (n + 1) c ∧ B ≤ g ∧ (∃ u0 u1 u2 u3 u4, w.cell? ⟨g, n * 5, none⟩ = some u0 ∧ w.cell? ⟨g, n * 5 + 1, none⟩ = some u1 ∧ w.cell? ⟨g, n * 5 + 2, none⟩ = some u2 ∧ w.cell? ⟨g, n * 5 + 3, none⟩ = some u3 ∧ w.cell? ⟨g, n * 5 + 4, none⟩ = some u4) ∧ ∀ o, w.frozen? ⟨g, o, none⟩ = false := by
  rcases h.2 with ⟨_, h0⟩ | ⟨g, cap, cur, hv, hB, hg, hc, _, hcs, _⟩
  · omega
  · exact ⟨g, cap, hv, hB, five_of hg (by omega), fun o => frozen_here hg o⟩
theorem put5_end (xs : List Value) (k : Nat) (hk : xs.length = k) (z0 z1 z2 z3 z4 c0 c1 c2 c3 c4 : Value) : put5 (xs ++ [z0, z1, z2, z3, z4]) k c0 c1 c2 c3 c4 = xs ++ [c0, c1, c2, c3, c4] := by
  subst hk
  unfold put5
  simp [List.set_append]
theorem zero_isP (w : World) (L N : Nat) : VIs w L N V.zero [.int .i64 0, .int .i64 0, .string ⟨#[]⟩, .slice none 0 0, .slice none 0 0] := by
  have h := VIs.mk (w := w) (L := L) (N := N) (k := 0) (n := 0) (t := []) (l := []) (ks := []) (A := none) (A' := none) (c := 0) (c' := 0) ⟨by simp, by simp, by simp, by simp⟩ (.inl rfl) (.inl rfl)
  exact h
theorem own_set5 {B g n c : Nat} {w : World} {xs : List Value} (h : w.ownsRow B 25 5 (.slice (some ⟨g, 0, none⟩) n c) n xs) (k : Nat) (c0 c1 c2 c3 c4 : Value) :
    (set5 w g k c0 c1 c2 c3 c4).ownsRow B 25 5 (.slice (some ⟨g, 0, none⟩) n c) n (put5 xs k c0 c1 c2 c3 c4) := by
  unfold set5 put5
  have r0 := (h.stored k c0).1
  have r1 := (r0.stored (k + 1) c1).1
  have r2 := (r1.stored (k + 2) c2).1
  have r3 := (r2.stored (k + 3) c3).1
  exact (r3.stored (k + 4) c4).1
/-- an item more: an empty one at the row's end, written, then the row stored -/
theorem ROut.pushT {B p g c : Nat} {w w7 : World} {lv kv : Value} {l : List V} {ks : List (List UInt8)} {xs : List Value} (h : ROut B p w lv kv l ks xs) (x : V) {z0 z1 z2 z3 z4 c0 c1 c2 c3 c4 : Value} (hx : ApV B w p lv kv x [c0, c1, c2, c3, c4])
    (hown : w7.ownsRow B 25 5 (.slice (some ⟨g, 0, none⟩) (l.length + 1) c) (l.length + 1) (xs ++ [z0, z1, z2, z3, z4])) (hg : w.grownBy w7 lv.ownBlock) (hat : (Value.slice (some ⟨g, 0, none⟩) (l.length + 1) c).ownBlock = lv.ownBlock ∨ (Value.slice (some ⟨g, 0, none⟩) (l.length + 1) c).ownBlock = some w.heap.size) :
    ROut B p ((set5 w7 g (l.length * 5) c0 c1 c2 c3 c4).setCell ⟨p, 3, none⟩ (.slice (some ⟨g, 0, none⟩) (l.length + 1) c)) (.slice (some ⟨g, 0, none⟩) (l.length + 1) c) kv (l ++ [x]) ks (xs ++ [c0, c1, c2, c3, c4]) := by
  have hr := own_set5 hown (l.length * 5) c0 c1 c2 c3 c4
  rw [put5_end xs _ h.rowL.1] at hr
  refine h.itemMore x ⟨c0, c1, c2, c3, c4, rfl, hx⟩ hr ⟨?_, ?_, ?_, by rw [set5_size]; exact hg.size, fun k hk hne => (set5_there fun e => ?_).trans (hg.block k hk hne)⟩ hat
  · exact (set5_below (B := 0) (Nat.zero_le _)).os.trans hg.os
  · exact (set5_below (B := 0) (Nat.zero_le _)).tape.trans hg.tape
  · exact (set5_below (B := 0) (Nat.zero_le _)).output.trans hg.output
  · rcases hat with ha | ha
    · exact hne (by rw [← ha, e]; rfl)
    · have : g = w.heap.size := by injection ha
      omega
/-- the same, the row stored ahead of the write -/
theorem ROut.pushG {B p g c : Nat} {w w7 : World} {lv kv : Value} {l : List V} {ks : List (List UInt8)} {xs : List Value} (h : ROut B p w lv kv l ks xs) (x : V) {c0 c1 c2 c3 c4 : Value} (hx : ApV B w p lv kv x [c0, c1, c2, c3, c4])
    (hown : w7.ownsRow B 25 5 (.slice (some ⟨g, 0, none⟩) (l.length + 1) c) (l.length + 1) (xs ++ [.int .i64 0, .int .i64 0, .string ⟨#[]⟩, .slice none 0 0, .slice none 0 0])) (hg : w.grownBy w7 lv.ownBlock) (hat : (Value.slice (some ⟨g, 0, none⟩) (l.length + 1) c).ownBlock = lv.ownBlock ∨ (Value.slice (some ⟨g, 0, none⟩) (l.length + 1) c).ownBlock = some w.heap.size) :
    ROut B p (set5 (w7.setCell ⟨p, 3, none⟩ (.slice (some ⟨g, 0, none⟩) (l.length + 1) c)) g (l.length * 5) c0 c1 c2 c3 c4) (.slice (some ⟨g, 0, none⟩) (l.length + 1) c) kv (l ++ [x]) ks (xs ++ [c0, c1, c2, c3, c4]) := by
  have h0 := h.itemMore V.zero ⟨_, _, _, _, _, rfl, 0, 0, .inl rfl, Nat.zero_le _, fun g _ h => absurd h (Nat.not_lt_zero _), zero_isP w 0 0⟩ hown hg hat
  have hl : (l ++ [V.zero]).length = l.length + 1 := by simp
  have hx' : ApV B (w7.setCell ⟨p, 3, none⟩ (.slice (some ⟨g, 0, none⟩) (l.length + 1) c)) p (.slice (some ⟨g, 0, none⟩) (l.length + 1) c) kv x [c0, c1, c2, c3, c4] :=
    hx.step (fun g hgs ⟨a1, a2, a3⟩ => (set_there _ a1).trans (hg.block g hgs fun e => a2 e.symm)) (by rw [set_size]; exact hg.size) fun g hgs ⟨a1, a2, a3⟩ => ⟨a1, fun e => by
      rcases hat with ha | ha
      · rw [ha] at e; exact a2 e
      · rw [ha] at e; injection e with e; omega, a3⟩
  rw [← hl] at h0 hx'
  have h1 := h0.itemSet l.length (by omega) x hx'
  rw [put5_end xs _ h.rowL.1, show (l ++ [V.zero]).set l.length x = l ++ [x] by simp [List.set_append], hl] at h1
  exact h1
/-- what put leaves -/
def PutSays (B p : Nat) (w : World) (l : List V) (ks : List (List UInt8)) (key : List UInt8) (x : V) (e : Ending) (w' : World) : Prop :=
  (∃ v, e = .returned v) ∧ (∃ lv' kv' l' ks' xs', putV (.mk 6 0 [] l ks) key x = .mk 6 0 [] l' ks' ∧ l'.length = ks'.length ∧ ks'.length ≤ ks.length + 1 ∧ ROut B p w' lv' kv' l' ks' xs') ∧ ButO B p w w'
set_option maxRecDepth 100000 in
set_option maxHeartbeats 4000000 in
theorem put_at (B p : Nat) (w : World) (lv kv : Value) (l : List V) (ks : List (List UInt8)) (xs : List Value) (key : List UInt8) (x : V) (x0 x1 x2 x3 x4 : Value) (hR : ROut B p w lv kv l ks xs) (hB : B ≤ w.heap.size) (hlk : l.length = ks.length) (hl : ks.length ≤ 100000)
    (hx : ApV B w p lv kv x [x0, x1, x2, x3, x4])
    (hix : ∀ wq, Below w.heap.size w wq → Calls Tryd.prog 58 #[kv, .string ⟨key.toArray⟩] wq fun e w' => e = .returned (.int .i64 (if keyAt key ks < ks.length then (keyAt key ks : Int) else -1)) ∧ w' = wq) :
    Calls Tryd.prog 41 #[.pointer (some ⟨p, 0, none⟩), .string ⟨key.toArray⟩, .agg #[x0, x1, x2, x3, x4]] w (PutSays B p w l ks key x) := by
  obtain ⟨XA, xc, XA', xc', hxe⟩ := hx.form
  simp only [List.cons.injEq, and_true] at hxe
  obtain ⟨rfl, rfl, rfl, rfl, rfl⟩ := hxe
  obtain ⟨x0, hx0⟩ : ∃ z, x.kind = z := ⟨_, rfl⟩
  obtain ⟨x1, hx1⟩ : ∃ z, x.num = z := ⟨_, rfl⟩
  obtain ⟨x2, hx2⟩ : ∃ z : ByteArray, ⟨x.text.toArray⟩ = z := ⟨_, rfl⟩
  obtain ⟨x3, hx3⟩ : ∃ z, x.list.length = z := ⟨_, rfl⟩
  obtain ⟨x4, hx4⟩ : ∃ z, x.keys.length = z := ⟨_, rfl⟩
  rw [hx0, hx1, hx2, hx3, hx4] at hx ⊢
  clear hx0 hx1 hx2 hx3 hx4
  obtain ⟨W1, hW1⟩ : ∃ W1, W1 = w.alloc (.cells #[.int .i64 x0, .int .i64 x1, .string x2, .slice XA x3 xc, .slice XA' x4 xc'] 25) := ⟨_, rfl⟩
  obtain ⟨R, hRr⟩ : ∃ R, w.heap.size = R := ⟨_, rfl⟩
  have hb1 : Below w.heap.size w W1 := by rw [hW1]; exact (Below.refl _ _).alloc (Nat.le_refl _) _
  have q1 : W1.heap[R]? = some (.cells #[.int .i64 x0, .int .i64 x1, .string x2, .slice XA x3 xc, .slice XA' x4 xc'] 25 (0, 0)) := by rw [hW1, ← hRr]; exact heap_alloc_last w _
  have o1 := hR.keep hb1
  have hx1 : ApV B W1 p lv kv x [.int .i64 x0, .int .i64 x1, .string x2, .slice XA x3 xc, .slice XA' x4 xc'] := hx.step (fun g hg _ => hb1.block g hg) hb1.size fun g _ h => h
  have hps := hR.psize
  have z1 : W1.heap.size = R + 1 := by rw [hW1]; simp [hRr]
  have hpR : p < R := by omega
  obtain ⟨n, hn⟩ : ∃ n, ks.length = n := ⟨_, rfl⟩
  obtain ⟨i, hi⟩ : ∃ i, keyAt key ks = i := ⟨_, rfl⟩
  have hput : putV (.mk 6 0 [] l ks) key x = if i < n then .mk 6 0 [] (l.set i x) ks else .mk 6 0 [] (l ++ [x]) (ks ++ [key]) := by rw [← hi, ← hn]; rfl
  rw [hn, hi] at hix
  have hnl : n ≤ 100000 := by omega
  obtain ⟨KA, kc, rfl⟩ := own_formR o1.rowK
  obtain ⟨LA, lc, rfl⟩ := own_formR o1.rowL
  rw [hn] at hR hx o1 hx1 hix
  have hln : l.length = n := by omega
  rw [hln] at hR hx o1 hx1
  obtain ⟨⟨e0, e1, e2, e3, e4⟩, f0, f1, f2, f3, f4⟩ := box_of o1.var
  obtain ⟨⟨d0, d1, d2, d3, d4⟩, -⟩ := box_of q1
  have HIX := Lib.hid (hix W1 hb1); have O1 := Lib.hid o1; have HX := Lib.hid hx1; have HB1 := Lib.hid hb1; have HP := Lib.hid hput; have HW1 := Lib.hid hW1; have HN := Lib.hid hn; have HLN := Lib.hid hln; have HRR := Lib.hid hRr
  have e4' : (w.alloc (.cells #[.int .i64 x0, .int .i64 x1, .string x2, .slice XA x3 xc, .slice XA' x4 xc'] 25)).cell? ⟨p, 4, none⟩ = some (.slice KA n kc) := by rw [← hW1]; exact e4
  clear hix o1 hx1 hR hx hb1 hput hn hi hln hlk hRr
  by_cases hin : i < n
  · have hie : (if i < n then (i : Int) else -1) = i := if_pos hin
    rw [hie] at HIX
    have t1 : decide ((0 : Int) ≤ (i : Int)) = true := by simp
    obtain ⟨g, rfl⟩ : ∃ g, LA = some ⟨g, 0, none⟩ := by
      rcases O1.out.rowL.2 with ⟨hv, h0⟩ | ⟨g, cap, cur, hv, _⟩
      · rw [HLN.out] at h0; omega
      · injection hv with e1 _ _; exact ⟨g, e1⟩
    have hj0 : (0 : Int) ≤ i := by omega
    have hj1 : (i : Int) < n := by omega
    obtain ⟨⟨u0, u1, u2, u3, u4, g0, g1, g2, g3, g4⟩, hfr⟩ : (∃ u0 u1 u2 u3 u4, W1.cell? ⟨g, i * 5, none⟩ = some u0 ∧ W1.cell? ⟨g, i * 5 + 1, none⟩ = some u1 ∧ W1.cell? ⟨g, i * 5 + 2, none⟩ = some u2 ∧ W1.cell? ⟨g, i * 5 + 3, none⟩ = some u3 ∧ W1.cell? ⟨g, i * 5 + 4, none⟩ = some u4) ∧ ∀ o, W1.frozen? ⟨g, o, none⟩ = false := by
      rcases O1.out.rowL.2 with ⟨hv, h0⟩ | ⟨g', cap, cur, hv, _, hg, hc, _, hcs, _⟩
      · cases hv
      · injection hv with e1 _ e3
        injection e1 with e1
        injection e1 with e1 _ _
        subst e1; subst e3
        rw [HLN.out] at hc
        exact ⟨five_of hg (by omega), fun o => frozen_here hg o⟩
    have fr0 := hfr (i * 5); have fr1 := hfr (i * 5 + 1); have fr2 := hfr (i * 5 + 2); have fr3 := hfr (i * 5 + 3); have fr4 := hfr (i * 5 + 4)
    clear hW1 hfr
    go_enter Tryd.func41, Tryd.ntmps41
    go_wp2_with (go_at_call 58; rw [← HW1.out]; (with_reducible refine (HIX.out).mono ?_); rintro e1 w1 ⟨rfl, rfl⟩; dsimp only; rw [HRR.out])
    go_region
    go_wp2
    obtain ⟨wf, hwf⟩ : ∃ wf, wf = set5 w1 g (i * 5) (.int .i64 x0) (.int .i64 x1) (.string x2) (.slice XA x3 xc) (.slice XA' x4 xc') := ⟨_, rfl⟩
    change bodyPost _ _ _ _ _ (set5 w1 g (i * 5) (.int .i64 x0) (.int .i64 x1) (.string x2) (.slice XA x3 xc) (.slice XA' x4 xc')).drew
    rw [← hwf]
    have hgB : B ≤ g := (O1.out.rowL.lt g rfl).1
    have o2 := O1.out
    have hx2 := HX.out
    rw [← HLN.out] at o2 hx2
    have o3 := o2.itemSet i (by rw [HLN.out]; exact hin) x hx2
    rw [← hwf] at o3
    have o4 := o3.keep (w' := wf.drew) ((Below.refl _ wf).drew)
    have hb2 : ButO B p w wf.drew := by
      have h1 : ButO B p w wf := by rw [hwf]; exact (ButO.of (HB1.out.mono hB)).set5 (.inl hgB) _ _ _ _ _
      exact h1.trans (ButO.of (Below.refl _ wf).drew)
    have O4 := Lib.hid o4; have HB2 := Lib.hid hb2
    clear o2 o3 o4 hx2 hb2 hwf
    refine bodyPost_end (v := .tuple #[]) (results_none rfl _ _ _) rfl ?_
    refine ⟨⟨_, rfl⟩, ⟨_, _, _, _, _, by rw [HP.out, if_pos hin], ?_, Nat.le_succ _, O4.out⟩, HB2.out⟩
    rw [List.length_set]; exact HLN.out.trans HN.out.symm
  · have hie : (if i < n then (i : Int) else -1) = -1 := if_neg hin
    rw [hie] at HIX
    obtain ⟨i0, hi, hz0, hz1, hz2⟩ := info_parts Tryd.infoValR
    obtain ⟨j0, hj, hy0, hy1, hy2⟩ := info_parts Tryd.infoStrR
    have hbk : Below W1.heap.size W1 (W1.alloc (.cells #[.string ⟨key.toArray⟩] 9)) := (Below.refl _ _).alloc (Nat.le_refl _) _
    have o2 := O1.out.keep hbk
    have rK := Lib.hid o2.rowK
    rw [HN.out] at rK
    have q2 := alloc_block (x := .cells #[.string ⟨key.toArray⟩] 9) q1
    have hnc := new_cells W1 #[.string ⟨key.toArray⟩] 9
    rw [z1] at hnc
    have NC := Lib.hid hnc
    clear hnc
    have O2 := Lib.hid o2; have Q2 := Lib.hid q2; have Z1 := Lib.hid z1
    clear hW1 hbk o2 q1 q2
    go_enter Tryd.func41, Tryd.ntmps41
    go_upto_region 4 with (go_at_call 58; rw [← HW1.out]; (with_reducible refine (HIX.out).mono ?_); rintro e1 w1 ⟨rfl, rfl⟩; dsimp only; rw [HRR.out])
    go_upto_region 5 with (at_builtin; refine wpList_append_opt rfl (.tmp 26) (.tmp 28) 23 rfl B 9 j0 _ 1 16 Tryd.underlying23 hj hy0 hy1 hy2 rfl (by decide) _ _ _ rfl rK.out (some ⟨_, 0, none⟩) 1 1 [.string ⟨key.toArray⟩] rfl rfl (.inr ⟨_, rfl, NC.out⟩) (by intro u hu; simp at hu; subst hu; rfl) (by unfold maxLen; omega) (by omega) (by have := Z1.out; have := HRR.out; simp; omega) ?_; intro v5 w5 hown hgrow hat; obtain ⟨KA5, kc5, rfl⟩ := own_form hown; have q5 := hgrow.block p (by have := O2.out.psize; exact this) (fun e => O2.out.farK e.symm); have q5' := q5.trans O2.out.var; obtain ⟨⟨p0, p1, p2, p3, p4⟩, r0, r1, r2, r3, r4⟩ := box_of q5')
    have o6 := O2.out.keysMore [key] (by rw [HN.out]; exact hown) hgrow hat
    obtain ⟨w6, hw6⟩ : ∃ w6, w6 = w5.setCell ⟨p, 4, none⟩ (.slice KA5 (n + 1) kc5) := ⟨_, rfl⟩
    rw [← hw6] at o6 ⊢
    have q6 : w6.heap[R]? = some (.cells #[.int .i64 x0, .int .i64 x1, .string x2, .slice XA x3 xc, .slice XA' x4 xc'] 25 (0, 0)) := by
      rw [hw6, set_there _ (by omega)]
      exact grown_block hgrow Q2.out (own_not rK.out Q2.out (by decide))
    have hx6 : ApV B w6 p (.slice LA n lc) (.slice KA5 (n + 1) kc5) x [.int .i64 x0, .int .i64 x1, .string x2, .slice XA x3 xc, .slice XA' x4 xc'] := by
      have h1 : ApV B (w1.alloc (.cells #[.string ⟨key.toArray⟩] 9)) p (.slice LA n lc) (.slice KA n kc) x [.int .i64 x0, .int .i64 x1, .string x2, .slice XA x3 xc, .slice XA' x4 xc'] := HX.out.step (fun g hg _ => Below.heap_alloc _ _ _ hg) (by simp) fun g _ h => h
      rw [hw6]
      refine h1.step (fun g hgs ⟨a1, a2, a3⟩ => (set_there _ a1).trans (hgrow.block g hgs fun e => a3 e.symm)) (by rw [set_size]; exact hgrow.size) fun g hgs ⟨a1, a2, a3⟩ => ⟨a1, a2, fun e => ?_⟩
      rcases hat with ha | ha
      · rw [ha] at e; exact a3 e
      · rw [ha] at e; injection e with e; omega
    have hb6 : ButO B p w w6 := by
      rw [hw6]
      exact ((((ButO.of (HB1.out.mono hB)).trans (ButO.of ((Below.refl _ _).alloc (by rw [Z1.out]; have := HRR.out; omega) _))).grown hgrow (by simp [Z1.out]; have := HRR.out; omega) (fun k hk => .inl (rK.out.lt k hk).1)).set (.inr rfl) _)
    have z6 : R < w6.heap.size := (Array.getElem?_eq_some_iff.1 q6).1
    have O6 := Lib.hid o6; have Q6 := Lib.hid q6; have HX6 := Lib.hid hx6; have HB6 := Lib.hid hb6
    clear o6 hx6 hb6 hown hgrow hat hw6 q5 q5' p0 p1 p2 p3 p4 r0 r1 r2 r3 r4 e0 e1 e2 e3 e4 f0 f1 f2 f3 f4 d0 d1 d2 d3 d4 HIX HW1 NC
    obtain ⟨⟨e0, e1, e2, e3, e4⟩, f0, f1, f2, f3, f4⟩ := box_of O6.out.var
    obtain ⟨⟨d0, d1, d2, d3, d4⟩, -⟩ := box_of q6
    have hba : Below w6.heap.size w6 (w6.alloc (.cells #[.int .i64 0, .int .i64 0, .string ⟨#[]⟩, .slice none 0 0, .slice none 0 0] 25)) := (Below.refl _ w6).alloc (Nat.le_refl _) _
    obtain ⟨⟨a0, a1, a2, a3, a4⟩, -⟩ := box_of (O6.out.keep hba).var
    obtain ⟨⟨b0, b1, b2, b3, b4⟩, -⟩ := box_of (blk_below q6 hba)
    clear hba
    have hn0 : (0 : Int) ≤ n := by omega
    have hn1 : (n : Int) < n + 1 := by omega
    have hbz : Below w6.heap.size w6 (w6.alloc (.cells #[.int .i64 0, .int .i64 0, .string ⟨#[]⟩, .slice none 0 0, .slice none 0 0] 25)).drew := ((Below.refl _ w6).alloc (Nat.le_refl _) _).drew
    have oz := O6.out.keep hbz
    have ncz : ∀ j u, [Value.int .i64 0, .int .i64 0, .string ⟨#[]⟩, .slice none 0 0, .slice none 0 0][j]? = some u → ((w6.alloc (.cells #[.int .i64 0, .int .i64 0, .string ⟨#[]⟩, .slice none 0 0, .slice none 0 0] 25)).drew).cell? ((⟨w6.heap.size, 0, none⟩ : Addr).add j) = some u := fun j u h => new_cells w6 #[.int .i64 0, .int .i64 0, .string ⟨#[]⟩, .slice none 0 0, .slice none 0 0] 25 j u h
    have rz := oz.rowL
    rw [HLN.out] at rz
    have hBz : B ≤ ((w6.alloc (.cells #[.int .i64 0, .int .i64 0, .string ⟨#[]⟩, .slice none 0 0, .slice none 0 0] 25)).drew).heap.size := by have := hbz.size; have := HRR.out; omega
    have RZ := Lib.hid rz; have NCZ := Lib.hid ncz; have OZ := Lib.hid oz; have BZ := Lib.hid hBz; have HBZ := Lib.hid hbz
    clear rz ncz oz hBz hbz
    go_region_law (first
      | (refine step_append_opt rfl (.tmp 35) (.tmp 38) 22 rfl B 25 i0 _ 5 80 Tryd.underlying22 hi hz0 hz1 hz2 rfl (by decide) _ _ xs rfl RZ.out (some ⟨w6.heap.size, 0, none⟩) 1 1 [.int .i64 0, .int .i64 0, .string ⟨#[]⟩, .slice none 0 0, .slice none 0 0] rfl rfl (.inr ⟨_, rfl, NCZ.out⟩) (by intro u hu; simp at hu; rcases hu with rfl | rfl | rfl | rfl | rfl <;> rfl) (by unfold maxLen; omega) (by omega) BZ.out ?_; intro v7 w7 hown hgrow hat; obtain ⟨g7, c7, rfl, hg7, ⟨u0, u1, u2, u3, u4, k0, k1, k2, k3, k4⟩, hfr⟩ := row_last hown; have fr0 := hfr (n * 5); have fr1 := hfr (n * 5 + 1); have fr2 := hfr (n * 5 + 2); have fr3 := hfr (n * 5 + 3); have fr4 := hfr (n * 5 + 4); clear hfr; obtain ⟨⟨s0, s1, s2, s3, s4⟩, t0, t1, t2, t3, t4⟩ := box_of ((hgrow.block p OZ.out.psize (fun e => OZ.out.far e.symm)).trans OZ.out.var); have hgp : g7 ≠ p := (fun e => far_of2 (X := _) hown hat OZ.out.far OZ.out.psize (by rw [e]; rfl)); have hpg : p ≠ g7 := Ne.symm hgp)
      | fail)
    all_goals
      have hxz : ApV B (w6.alloc (.cells #[.int .i64 0, .int .i64 0, .string ⟨#[]⟩, .slice none 0 0, .slice none 0 0] 25)).drew p (.slice LA n lc) (.slice KA5 (n + 1) kc5) x [.int .i64 x0, .int .i64 x1, .string x2, .slice XA x3 xc, .slice XA' x4 xc'] := HX6.out.step (fun g hg _ => HBZ.out.block g hg) HBZ.out.size fun g _ h => h
      have hgB : ∀ k, (Value.slice LA n lc).ownBlock = some k → B ≤ k ∨ k = p := fun k hk => .inl (RZ.out.lt k hk).1
      have hb7 : ButO B p w w7 := (HB6.out.trans (ButO.of (HBZ.out.mono (by have := HRR.out; omega)))).grown hgrow BZ.out hgB
      have oz := OZ.out
      rw [← HLN.out] at oz hxz hown hgrow hat
      first
        | (have o8 := oz.pushT x hxz hown hgrow hat
           have hb8 := (hb7.set5 (b := g7) (o := l.length * 5) (.inl hg7) (.int .i64 x0) (.int .i64 x1) (.string x2) (.slice XA x3 xc) (.slice XA' x4 xc')).set (b := p) (o := 3) (.inr rfl) (.slice (some ⟨g7, 0, none⟩) (l.length + 1) c7)
           rw [HLN.out] at o8 hb8
           obtain ⟨wf, hwf⟩ : ∃ wf, wf = (set5 w7 g7 (n * 5) (.int .i64 x0) (.int .i64 x1) (.string x2) (.slice XA x3 xc) (.slice XA' x4 xc')).setCell ⟨p, 3, none⟩ (.slice (some ⟨g7, 0, none⟩) (n + 1) c7) := ⟨_, rfl⟩
           rw [← hwf] at o8 hb8
           unfold set5 at hwf
           rw [← hwf]
           clear hwf
           have O8 := Lib.hid o8; have B8 := Lib.hid hb8
           clear o8 hb8 oz hxz hown hgrow hat hb7 hgB k0 k1 k2 k3 k4 fr0 fr1 fr2 fr3 fr4 s0 s1 s2 s3 s4 t0 t1 t2 t3 t4 a0 a1 a2 a3 a4 b0 b1 b2 b3 b4 e0 e1 e2 e3 e4 f0 f1 f2 f3 f4 d0 d1 d2 d3 d4
           refine bodyPost_end (v := .tuple #[]) (results_none rfl _ _ _) rfl ?_
           exact ⟨⟨_, rfl⟩, ⟨_, _, _, _, _, by rw [HP.out, if_neg hin], (by rw [List.length_append, List.length_append, HLN.out, HN.out]; rfl), by rw [List.length_append]; exact Nat.le_refl _, O8.out⟩, B8.out⟩)
        | (have o8 := oz.pushG x hxz hown hgrow hat
           have hb8 := (hb7.set (b := p) (o := 3) (.inr rfl) (.slice (some ⟨g7, 0, none⟩) (l.length + 1) c7)).set5 (b := g7) (o := l.length * 5) (.inl hg7) (.int .i64 x0) (.int .i64 x1) (.string x2) (.slice XA x3 xc) (.slice XA' x4 xc')
           rw [HLN.out] at o8 hb8
           obtain ⟨wf, hwf⟩ : ∃ wf, wf = set5 (w7.setCell ⟨p, 3, none⟩ (.slice (some ⟨g7, 0, none⟩) (n + 1) c7)) g7 (n * 5) (.int .i64 x0) (.int .i64 x1) (.string x2) (.slice XA x3 xc) (.slice XA' x4 xc') := ⟨_, rfl⟩
           rw [← hwf] at o8 hb8
           unfold set5 at hwf
           rw [← hwf]
           clear hwf
           have O8 := Lib.hid o8; have B8 := Lib.hid hb8
           clear o8 hb8 oz hxz hown hgrow hat hb7 hgB k0 k1 k2 k3 k4 fr0 fr1 fr2 fr3 fr4 s0 s1 s2 s3 s4 t0 t1 t2 t3 t4 a0 a1 a2 a3 a4 b0 b1 b2 b3 b4 e0 e1 e2 e3 e4 f0 f1 f2 f3 f4 d0 d1 d2 d3 d4
           refine bodyPost_end (v := .tuple #[]) (results_none rfl _ _ _) rfl ?_
           exact ⟨⟨_, rfl⟩, ⟨_, _, _, _, _, by rw [HP.out, if_neg hin], (by rw [List.length_append, List.length_append, HLN.out, HN.out]; rfl), by rw [List.length_append]; exact Nat.le_refl _, O8.out⟩, B8.out⟩)
end Go.Proofs.YtobicmpgfiddhaaDoor
