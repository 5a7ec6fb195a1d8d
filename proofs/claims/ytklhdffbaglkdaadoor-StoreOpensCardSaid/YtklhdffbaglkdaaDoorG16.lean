/- Texts merged by program, in build order: DoRef, OpenRef. -/
import Derived.Test.YtklhdffbaglkdaaDoorG15
namespace Go.Proofs.YtklhdffbaglkdaaDoor
open Go.RowKit
set_option linter.unusedVariables false
set_option linter.unusedSimpArgs false

set_option maxRecDepth 100000 in
set_option maxHeartbeats 8000000 in
theorem refDo_any (p q : Nat) (v rv : Value) (t : TP) (rows : RowL) (A : Option Addr) (c : Nat) (l : List Ch) (ht : t.Ok) (htl : t.b.length ≤ 100000) (hr : rows.length ≤ 50000) (hl : l.length ≤ 50000) (hrec : (recL l).length ≤ 100000000) (hrec2 : (recL (allR (turnL rows l))).length ≤ 100000000) (w : World) (h : RStore w p q v rv t rows) (hc : RdC w (.slice A l.length c) l) :
    Calls Tryd.prog 19 #[.pointer (some ⟨p, 0, none⟩), .slice A l.length c] w fun e w' =>
      e = .returned (.int .i64 (doS t rows l).1) ∧ (∃ v' rv', RStore w' p q v' rv' (doS t rows l).2.2 (doS t rows l).2.1 ∧ (v' = v ∨ ∀ g, v'.ownBlock = some g → w.heap.size ≤ g) ∧ (rv' = rv ∨ ∀ g, rv'.ownBlock = some g → w.heap.size ≤ g)) ∧ Only (fun b => b = p ∨ b = q) w w' := by
  have hrecl := refRecord_any A c l hrec w hc
  obtain ⟨n, hn⟩ : ∃ n, l.length = n := ⟨_, rfl⟩
  obtain ⟨bl, hbl⟩ : ∃ n, (recL l).length = n := ⟨_, rfl⟩
  have hturn : ∀ W, Below w.heap.size w W → Calls Tryd.prog 23 #[rv, .slice A l.length c] W fun e w' => (∃ v, e = .returned v ∧ QRow w' W.heap.size 89 v (turnL rows l)) ∧ Below W.heap.size W w' := fun W hb => by
    obtain ⟨Ar, cr, e⟩ := rdr_form h.rd
    have := refTurn_any Ar cr rows A c l (by omega) (by omega) W (by rw [← e]; exact h.rd.below hb) (hc.below hb)
    rw [← e] at this
    exact this
  have htl2 : (turnL rows l).length ≤ 100000 := by have := turnL_len l rows; omega
  rw [hn] at hrecl
  simp only [hn] at hturn
  have ST := Lib.hid h; have RC := Lib.hid hc; have RECL := Lib.hid hrecl; have BL := Lib.hid hbl; have TURN := Lib.hid hturn; have TL2 := Lib.hid htl2; have OK := Lib.hid ht; have HN := Lib.hid hn; have REC2 := Lib.hid hrec2
  rw [hn] at hl ⊢
  rw [hbl] at hrec
  clear h hc hrecl hturn htl2 ht hrec2
  by_cases h0 : n = 0
  · have d0 : ((n : Int) == 0) = true := by simp [h0]
    have hres : doS t rows l = (0, rows, t) := by unfold doS; rw [hn, if_pos h0]
    rw [hres]
    clear h0 hres hn hbl
    go_enter Tryd.func19, Tryd.ntmps19
    go_wp2
    go_ret
    exact ⟨rfl, ⟨v, rv, ST.out, .inl rfl, .inl rfl⟩, Only.refl _ _⟩
  have d0 : ((n : Int) == 0) = false := by rw [beq_eq_false_iff_ne]; omega
  by_cases hlarge : 32768 < bl
  · have d1 : decide ((32768 : Int) < bl) = true := by simp; omega
    have hres : doS t rows l = (3, rows, t) := by unfold doS; rw [hn, hbl, if_neg h0, if_pos hlarge]
    rw [hres]
    clear h0 hres hn hbl hlarge
    go_enter Tryd.func19, Tryd.ntmps19
    go_wp2_with fail
    refine RECL.out.mono ?_
    rintro e w1 ⟨⟨v1, rfl, hB1⟩, hb1⟩
    have B1 := Lib.hid hb1; have BUF1 := Lib.hid hB1
    obtain ⟨A1, c1, rfl⟩ := own_form hB1
    have ST1 := Lib.hid (ST.out.below hb1)
    rw [BL.out]
    clear hB1 hb1
    dsimp only
    go_wp2
    go_ret
    exact ⟨rfl, ⟨v, rv, ST1.out, .inl rfl, .inl rfl⟩, Only.of_below B1.out⟩
  have d1 : decide ((32768 : Int) < bl) = false := by simp; omega
  obtain ⟨tl, htl3⟩ : ∃ n, t.b.length = n := ⟨_, rfl⟩
  obtain ⟨Av, cv, hv⟩ : ∃ Av cv, v = .slice Av tl cv := by
    obtain ⟨A1, c1, e, _⟩ := ST.out.tape.rd
    exact ⟨A1, c1, by rw [e, htl3]⟩
  rw [htl3] at htl
  subst hv
  have HTL := Lib.hid htl3
  by_cases hbig : 65536 < tl + bl + 8
  · have d2 : decide ((65536 : Int) < (tl : Int) + bl + 8) = true := by simp; omega
    obtain ⟨rl, hrl⟩ : ∃ n, (recL (allR (turnL rows l))).length = n := ⟨_, rfl⟩
    obtain ⟨E, hE0⟩ : ∃ E, (t.swap (frameL (recL (allR (turnL rows l))))).2 = E := ⟨_, rfl⟩
    obtain ⟨T2, hT2⟩ : ∃ T, (t.swap (frameL (recL (allR (turnL rows l))))).1 = T := ⟨_, rfl⟩
    by_cases hfull : 32768 < rl
    · have d3 : decide ((32768 : Int) < rl) = true := by simp; omega
      have hres : doS t rows l = (7, rows, t) := by unfold doS; rw [hn, hbl, htl3, hrl, if_neg h0, if_neg hlarge, if_pos hbig, if_pos hfull]
      rw [hres]
      have RL := Lib.hid hrl
      clear h0 hres hn hbl hlarge hbig hfull htl3 hrl hE0 hT2
      go_enter Tryd.func19, Tryd.ntmps19
      go_wp2_with fail
      refine RECL.out.mono ?_
      rintro e w1 ⟨⟨v1, rfl, hB1⟩, hb1⟩
      have B1 := Lib.hid hb1; have BUF1 := Lib.hid hB1
      obtain ⟨A1, c1, rfl⟩ := own_form hB1
      have ST1 := Lib.hid (ST.out.below hb1)
      rw [BL.out]
      clear hB1 hb1
      dsimp only
      obtain ⟨e0, e1, -⟩ := ST1.out.cells
      go_wp2_with fail
      refine (TURN.out _ B1.out).mono ?_
      rintro e w2 ⟨⟨v2, rfl, hQ2⟩, hb2⟩
      have B2 := Lib.hid (B1.out.chain hb2); have Q2 := Lib.hid hQ2; have ST2 := Lib.hid (ST1.out.below hb2)
      obtain ⟨A2, c2, rfl⟩ := own_form hQ2
      obtain ⟨x2, hx2⟩ : ∃ n, (turnL rows l).length = n := ⟨_, rfl⟩
      rw [hx2]
      have HX2 := Lib.hid hx2
      clear hQ2 hb2 e0 e1 hx2
      obtain ⟨e0, e1, -⟩ := ST2.out.cells
      have e3 : w2.cell? ⟨q, 0, none⟩ = some (.slice Av tl cv) := (box4_of ST2.out.tape.box).1.1
      dsimp only
      have hall := refAll_any A2 c2 (turnL rows l) TL2.out w2 (Q2.out.rd)
      rw [HX2.out] at hall
      have HALL := Lib.hid hall; clear hall
      go_wp2_with fail
      refine HALL.out.mono ?_
      rintro e w3 ⟨⟨v3, rfl, hC3⟩, hb3⟩
      have B3 := Lib.hid (B2.out.chain hb3); have ST3 := Lib.hid (ST2.out.below hb3); have Q3 := Lib.hid (own_below Q2.out hb3)
      have hc3 := hC3.rd
      obtain ⟨A3, c3, rfl⟩ := own_form hC3
      have hrec3 := refRecord_any A3 c3 (allR (turnL rows l)) REC2.out w3 hc3
      have RC3 := Lib.hid hrec3
      clear hC3 hb3 hc3 hrec3 e0 e1 e3
      dsimp only
      go_wp2_with fail
      refine RC3.out.mono ?_
      rintro e w4 ⟨⟨v4, rfl, hB4⟩, hb4⟩
      have B4 := Lib.hid (B3.out.chain hb4); have ST4 := Lib.hid (ST3.out.below hb4); have BUF4 := Lib.hid hB4; have Q4 := Lib.hid (own_below Q3.out hb4)
      obtain ⟨A4, c4, rfl⟩ := own_form hB4
      rw [RL.out]
      clear hB4 hb4
      dsimp only
      go_wp2
      go_ret
      exact ⟨rfl, ⟨_, rv, ST4.out, .inl rfl, .inl rfl⟩, Only.of_below B4.out⟩
    · have d3 : decide ((32768 : Int) < rl) = false := by simp; omega
      have hres : doS t rows l = (E, (if E = 0 then turnL rows l else rows), T2) := by unfold doS; rw [hn, hbl, htl3, hrl, if_neg h0, if_neg hlarge, if_pos hbig, if_neg hfull, hE0, hT2]
      have RL := Lib.hid hrl; have RESX := Lib.hid hres; have HE0 := Lib.hid hE0; have HT2 := Lib.hid hT2
      have hfull2 : rl ≤ 32768 := by omega
      clear h0 hres hn hbl hlarge hbig hfull htl3 hrl hE0 hT2
      go_enter Tryd.func19, Tryd.ntmps19
      go_wp2_with fail
      refine RECL.out.mono ?_
      rintro e w1 ⟨⟨v1, rfl, hB1⟩, hb1⟩
      have B1 := Lib.hid hb1; have BUF1 := Lib.hid hB1
      obtain ⟨A1, c1, rfl⟩ := own_form hB1
      have ST1 := Lib.hid (ST.out.below hb1)
      rw [BL.out]
      clear hB1 hb1
      dsimp only
      obtain ⟨e0, e1, -⟩ := ST1.out.cells
      go_wp2_with fail
      refine (TURN.out _ B1.out).mono ?_
      rintro e w2 ⟨⟨v2, rfl, hQ2⟩, hb2⟩
      have B2 := Lib.hid (B1.out.chain hb2); have Q2 := Lib.hid hQ2; have ST2 := Lib.hid (ST1.out.below hb2)
      obtain ⟨A2, c2, rfl⟩ := own_form hQ2
      obtain ⟨x2, hx2⟩ : ∃ n, (turnL rows l).length = n := ⟨_, rfl⟩
      rw [hx2]
      have HX2 := Lib.hid hx2
      clear hQ2 hb2 e0 e1 hx2
      obtain ⟨e0, e1, -⟩ := ST2.out.cells
      have e3 : w2.cell? ⟨q, 0, none⟩ = some (.slice Av tl cv) := (box4_of ST2.out.tape.box).1.1
      dsimp only
      have hall := refAll_any A2 c2 (turnL rows l) TL2.out w2 (Q2.out.rd)
      rw [HX2.out] at hall
      have HALL := Lib.hid hall; clear hall
      go_wp2_with fail
      refine HALL.out.mono ?_
      rintro e w3 ⟨⟨v3, rfl, hC3⟩, hb3⟩
      have B3 := Lib.hid (B2.out.chain hb3); have ST3 := Lib.hid (ST2.out.below hb3); have Q3 := Lib.hid (own_below Q2.out hb3)
      have hc3 := hC3.rd
      obtain ⟨A3, c3, rfl⟩ := own_form hC3
      have hrec3 := refRecord_any A3 c3 (allR (turnL rows l)) REC2.out w3 hc3
      have RC3 := Lib.hid hrec3
      clear hC3 hb3 hc3 hrec3 e0 e1 e3
      dsimp only
      go_wp2_with fail
      refine RC3.out.mono ?_
      rintro e w4 ⟨⟨v4, rfl, hB4⟩, hb4⟩
      have B4 := Lib.hid (B3.out.chain hb4); have ST4 := Lib.hid (ST3.out.below hb4); have BUF4 := Lib.hid hB4; have Q4 := Lib.hid (own_below Q3.out hb4)
      obtain ⟨A4, c4, rfl⟩ := own_form hB4
      rw [RL.out]
      clear hB4 hb4
      dsimp only
      have hfrm := fun W (hb : Below w4.heap.size w4 W) => refFrame_any A4 c4 (recL (allR (turnL rows l))) (by have := RL.out; omega) W ((BUF4.out.rd.weak).below hb)
      simp only [RL.out] at hfrm
      have FRM := Lib.hid hfrm; clear hfrm
      go_upto_region 12 with fail
      refine wp_region_held_drew (S := (fun W => W.cell? ⟨p, 0, none⟩ = some (.pointer (some ⟨q, 0, none⟩)))) (by kernel_rfl) (ST4.out.cells.1) (fun hHeld => ?_)
      refine wpAnyH_take (i := 0) (oi := _) (v := ?v1) (by simp only [List.getElem?_toArray, List.getElem?_cons_succ, List.getElem?_cons_zero]; rfl) (by kernel_rfl) (by kernel_rfl) (by kernel_rfl) (by exact fun _ _ _ h => h) (Or.inl ⟨by rfl, ?hy1⟩) (by assumption) ?rest1
      case hy1 => (intro w hSw; (try dsimp only at hSw); go_simp; try with_reducible rfl)
      try simp only [Act.put, List.setIfInBounds_toArray, List.set_cons_zero, List.set_cons_succ]
      refine wpAnyH_take (i := 1) (oi := _) (v := ?v2) (by simp only [List.getElem?_toArray, List.getElem?_cons_succ, List.getElem?_cons_zero]; rfl) (by kernel_rfl) (by kernel_rfl) (by kernel_rfl) (by exact fun _ _ _ h => h) (Or.inl ⟨by rfl, ?hy2⟩) (by assumption) ?rest2
      case hy2 => (intro w hSw; (try dsimp only at hSw); go_simp; try with_reducible rfl)
      try simp only [Act.put, List.setIfInBounds_toArray, List.set_cons_zero, List.set_cons_succ]
      refine wpAnyH_take (i := 2) (oi := _) (v := ?v3) (by simp only [List.getElem?_toArray, List.getElem?_cons_succ, List.getElem?_cons_zero]; rfl) (by kernel_rfl) (by kernel_rfl) (by kernel_rfl) (by exact fun _ _ _ h => h) (Or.inl ⟨by rfl, ?hy3⟩) (by assumption) ?rest3
      case hy3 => (intro w hSw; (try dsimp only at hSw); go_simp; try with_reducible rfl)
      try simp only [Act.put, List.setIfInBounds_toArray, List.set_cons_zero, List.set_cons_succ]
      refine wpAnyH_take (i := 3) (oi := _) (v := ?v4) (by simp only [List.getElem?_toArray, List.getElem?_cons_succ, List.getElem?_cons_zero]; rfl) (by kernel_rfl) (by kernel_rfl) (by kernel_rfl) (by exact fun _ _ _ h => h) (Or.inl ⟨by rfl, ?hy4⟩) (by assumption) ?rest4
      case hy4 => (intro w hSw; (try dsimp only at hSw); go_simp; try with_reducible rfl)
      try simp only [Act.put, List.setIfInBounds_toArray, List.set_cons_zero, List.set_cons_succ]
      refine wpAnyH_take (i := 4) (oi := _) (v := ?v5) (by simp only [List.getElem?_toArray, List.getElem?_cons_succ, List.getElem?_cons_zero]; rfl) (by kernel_rfl) (by kernel_rfl) (by kernel_rfl) (by exact fun _ _ _ h => h) (Or.inl ⟨by rfl, ?hy5⟩) (by assumption) ?rest5
      case hy5 => (intro w hSw; (try dsimp only at hSw); go_simp; try with_reducible rfl)
      try simp only [Act.put, List.setIfInBounds_toArray, List.set_cons_zero, List.set_cons_succ]
      refine wpAnyH_ready (rs := [5]) (by kernel_rfl) (by simp) ?_
      refine AllReadyH.cons (o := _) (by simp only [List.getElem?_toArray, List.getElem?_cons_succ, List.getElem?_cons_zero]; rfl) (fun K hK => ?_) AllReadyH.nil
      go_simp
      go_at_call 41
      (with_reducible refine (FRM.out _ (Below.refl _ _).drew).mono ?_)
      rintro e wf ⟨⟨vf, rfl, hBf⟩, hbf⟩
      have GF := Lib.hid ((Below.refl w4.heap.size w4).drew.trans hbf)
      have STF := Lib.hid (ST4.out.below GF.out)
      have QF := Lib.hid (show QRow wf w1.heap.size 89 _ (turnL rows l) from own_below Q4.out GF.out)
      have hff := hBf.rd.weak
      have hbl : ∀ g, vf.ownBlock = some g → w4.heap.size ≤ g := fun g hg => (hBf.lt g hg).1
      obtain ⟨Af, cf, rfl⟩ := own_form hBf
      have BF := Lib.hid (B4.out.chain GF.out); have FF := Lib.hid hff; have FB := Lib.hid hbl
      clear hbf hBf hff hbl
      dsimp only
      refine hK.out _ _ (STF.out.cells.1) (fun hHeld => ?_)
      clear hK K
      try simp only [Act.put, List.setIfInBounds_toArray, List.set_cons_zero, List.set_cons_succ]
      refine wpAnyH_ready (rs := [6]) (by kernel_rfl) (by simp) ?_
      refine AllReadyH.cons (o := _) (by simp only [List.getElem?_toArray, List.getElem?_cons_succ, List.getElem?_cons_zero]; rfl) (fun K hK => ?_) AllReadyH.nil
      go_simp
      go_at_call 25
      (with_reducible refine (refSwap_any q _ t _ _ (by rw [frameL_len]; have := RL.out; omega) wf STF.out.tape OK.out.fuse FF.out (fun e => by have h1 := FB.out q (rdBlock_own e); have h2 := ST4.out.tape.lt; omega)).mono ?_)
      rintro e wx ⟨rfl, ⟨v', hrt, hv'⟩, hon⟩
      have RTX := Lib.hid hrt; have ONX := Lib.hid hon; have VW := Lib.hid (hv'.imp (fun h => h.1) id : v' = .slice Av tl cv ∨ ∀ g, v'.ownBlock = some g → wf.heap.size ≤ g)
      clear hrt hon hv'
      rw [HE0.out]
      dsimp only
      refine hK.out _ _ (((STF.out.turn RTX.out ONX.out VW.out).cells.1)) (fun hHeld => ?_)
      clear hK K
      try simp only [Act.put, List.setIfInBounds_toArray, List.set_cons_zero, List.set_cons_succ]
      refine wpAnyH_take (i := 7) (oi := _) (v := ?v8) (by simp only [List.getElem?_toArray, List.getElem?_cons_succ, List.getElem?_cons_zero]; rfl) (by kernel_rfl) (by kernel_rfl) (by kernel_rfl) (by exact fun _ _ _ h => h) (Or.inl ⟨by rfl, ?hy8⟩) (by assumption) ?rest8
      case hy8 => (intro w hSw; (try dsimp only at hSw); go_simp; try with_reducible rfl)
      try simp only [Act.put, List.setIfInBounds_toArray, List.set_cons_zero, List.set_cons_succ]
      refine wpAnyH_done (by kernel_rfl) ?_ _
      clear hHeld

      have hqlt : q < w.heap.size := ST.out.tape.lt
      have hstx := STF.out.turn RTX.out ONX.out VW.out
      have hplt : p < w.heap.size := ST.out.lt
      have hgrow : ∀ g, (Value.slice A2 x2 c2).ownBlock = some g → w.heap.size ≤ g ∧ g < wf.heap.size := fun g hg => ⟨Nat.le_trans B1.out.size (QF.out.lt g (by rw [HX2.out]; exact hg)).1, (QF.out.lt g (by rw [HX2.out]; exact hg)).2⟩
      have hrowx : RdR wx (.slice A2 x2 c2) (turnL rows l) := by
        have h1 := QF.out.rd
        rw [HX2.out] at h1
        exact h1.only ONX.out (fun g hg e => by have := (hgrow g hg).1; omega)
      have honly : Only (fun b => b = p ∨ b = q) w wx := (Only.of_below BF.out).then ONX.out (fun i hi _ => .inr hi)
      have hvx : v' = .slice Av tl cv ∨ ∀ g, v'.ownBlock = some g → w.heap.size ≤ g := VW.out.imp id (fun h g hg => Nat.le_trans BF.out.size (h g hg))
      have STX := Lib.hid hstx; have ROWX := Lib.hid hrowx; have ONLYX := Lib.hid honly; have VX := Lib.hid hvx
      have FARP := Lib.hid (fun (e : (Value.slice A2 x2 c2).ownBlock = some p) => by have := (hgrow p e).1; omega : (Value.slice A2 x2 c2).ownBlock ≠ some p)
      have FARQ := Lib.hid (fun (e : (Value.slice A2 x2 c2).ownBlock = some q) => by have := (hgrow q e).1; omega : (Value.slice A2 x2 c2).ownBlock ≠ some q)
      have FARW := Lib.hid (fun g hg => (hgrow g hg).1 : ∀ g, (Value.slice A2 x2 c2).ownBlock = some g → w.heap.size ≤ g)
      clear hstx hrowx honly hvx hgrow hqlt hplt
      rw [HT2.out] at STX

      by_cases hE : E = 0
      · have hE2 : (E == 0) = true := by rw [hE]; rfl
        obtain ⟨-, g1, g2⟩ := STX.out.cells
        have hlay := STX.out.lay ROWX.out FARP.out FARQ.out
        have LAY := Lib.hid hlay
        have honly := ONLYX.out.set (b := p) (o := 1) (.inl rfl) (.slice A2 x2 c2)
        have ONL := Lib.hid honly
        clear hlay honly
        go_wp2
        go_ret
        rw [RESX.out, if_pos hE]
        exact ⟨rfl, ⟨_, _, LAY.out, VX.out, .inr FARW.out⟩, ONL.out⟩
      · have hE2 : (E == 0) = false := by rw [beq_eq_false_iff_ne]; exact hE
        go_wp2
        go_ret
        rw [RESX.out, if_neg hE]
        exact ⟨rfl, ⟨_, _, STX.out, VX.out, .inl rfl⟩, ONLYX.out⟩
  · have d2 : decide ((65536 : Int) < (tl : Int) + bl + 8) = false := by simp; omega
    obtain ⟨E1, hE0⟩ : ∃ E, (t.write (frameL (recL l))).2 = E := ⟨_, rfl⟩
    obtain ⟨T1, hT1⟩ : ∃ T, (t.write (frameL (recL l))).1 = T := ⟨_, rfl⟩
    obtain ⟨E, hE3⟩ : ∃ E, T1.sync.2 = E := ⟨_, rfl⟩
    obtain ⟨T2, hT2⟩ : ∃ T, T1.sync.1 = T := ⟨_, rfl⟩
    have hres : doS t rows l = if E1 = 0 then (E, (if E = 0 then turnL rows l else rows), T2) else (E1, rows, T1) := by unfold doS; rw [hn, hbl, htl3, if_neg h0, if_neg hlarge, if_neg hbig, hE0, hT1, hE3, hT2]
    have hok1 := TP.write_ok OK.out (frameL (recL l))
    rw [hT1] at hok1
    have hl1 : T1.b.length ≤ 1000000000 := by have := hok1.2; rw [frameL_len] at this; omega
    have RES0 := Lib.hid hres; have HE0 := Lib.hid hE0; have HT1 := Lib.hid hT1; have HE3 := Lib.hid hE3; have HT2 := Lib.hid hT2; have OK1 := Lib.hid hok1; have L1 := Lib.hid hl1
    have hbl2 : bl ≤ 32768 := by omega
    clear h0 hres hn hbl hlarge hbig htl3 hE0 hT1 hE3 hT2 hok1 hl1
    go_enter Tryd.func19, Tryd.ntmps19
    go_wp2_with fail
    refine RECL.out.mono ?_
    rintro e w1 ⟨⟨v1, rfl, hB1⟩, hb1⟩
    have B1 := Lib.hid hb1; have BUF1 := Lib.hid hB1
    obtain ⟨A1, c1, rfl⟩ := own_form hB1
    have ST1 := Lib.hid (ST.out.below hb1)
    rw [BL.out]
    clear hB1 hb1
    dsimp only
    obtain ⟨e0, e1, -⟩ := ST1.out.cells
    go_wp2_with fail
    refine (TURN.out _ B1.out).mono ?_
    rintro e w2 ⟨⟨v2, rfl, hQ2⟩, hb2⟩
    have B2 := Lib.hid (B1.out.chain hb2); have Q2 := Lib.hid hQ2; have ST2 := Lib.hid (ST1.out.below hb2); have BUF2 := Lib.hid (own_below BUF1.out hb2)
    obtain ⟨A2, c2, rfl⟩ := own_form hQ2
    obtain ⟨x2, hx2⟩ : ∃ n, (turnL rows l).length = n := ⟨_, rfl⟩
    rw [hx2]
    have HX2 := Lib.hid hx2
    clear hQ2 hb2 e0 e1 hx2
    obtain ⟨e0, e1, -⟩ := ST2.out.cells
    have e3 : w2.cell? ⟨q, 0, none⟩ = some (.slice Av tl cv) := (box4_of ST2.out.tape.box).1.1
    dsimp only
    have hbufw : RdW w2 (.slice A1 bl c1) (recL l) := by
      have h1 := (Buf.rd (w := w2) (B := w.heap.size) BUF2.out).weak
      rw [BL.out] at h1
      exact h1
    have BUFW := Lib.hid hbufw; clear hbufw
    have hfrm := fun W (hb : Below w2.heap.size w2 W) => refFrame_any A1 c1 (recL l) (by have := BL.out; omega) W (by have h := BUFW.out.below hb; rw [BL.out]; exact h)
    simp only [BL.out] at hfrm
    have FRM := Lib.hid hfrm; clear hfrm
    go_upto_region 13 with fail
    refine wp_region_held_drew (S := (fun W => W.cell? ⟨p, 0, none⟩ = some (.pointer (some ⟨q, 0, none⟩)))) (by kernel_rfl) (ST2.out.cells.1) (fun hHeld => ?_)
    refine wpAnyH_take (i := 0) (oi := _) (v := ?v9) (by simp only [List.getElem?_toArray, List.getElem?_cons_succ, List.getElem?_cons_zero]; rfl) (by kernel_rfl) (by kernel_rfl) (by kernel_rfl) (by exact fun _ _ _ h => h) (Or.inl ⟨by rfl, ?hy9⟩) (by assumption) ?rest9
    case hy9 => (intro w hSw; (try dsimp only at hSw); go_simp; try with_reducible rfl)
    try simp only [Act.put, List.setIfInBounds_toArray, List.set_cons_zero, List.set_cons_succ]
    refine wpAnyH_take (i := 1) (oi := _) (v := ?v10) (by simp only [List.getElem?_toArray, List.getElem?_cons_succ, List.getElem?_cons_zero]; rfl) (by kernel_rfl) (by kernel_rfl) (by kernel_rfl) (by exact fun _ _ _ h => h) (Or.inl ⟨by rfl, ?hy10⟩) (by assumption) ?rest10
    case hy10 => (intro w hSw; (try dsimp only at hSw); go_simp; try with_reducible rfl)
    try simp only [Act.put, List.setIfInBounds_toArray, List.set_cons_zero, List.set_cons_succ]
    refine wpAnyH_take (i := 2) (oi := _) (v := ?v11) (by simp only [List.getElem?_toArray, List.getElem?_cons_succ, List.getElem?_cons_zero]; rfl) (by kernel_rfl) (by kernel_rfl) (by kernel_rfl) (by exact fun _ _ _ h => h) (Or.inl ⟨by rfl, ?hy11⟩) (by assumption) ?rest11
    case hy11 => (intro w hSw; (try dsimp only at hSw); go_simp; try with_reducible rfl)
    try simp only [Act.put, List.setIfInBounds_toArray, List.set_cons_zero, List.set_cons_succ]
    refine wpAnyH_take (i := 3) (oi := _) (v := ?v12) (by simp only [List.getElem?_toArray, List.getElem?_cons_succ, List.getElem?_cons_zero]; rfl) (by kernel_rfl) (by kernel_rfl) (by kernel_rfl) (by exact fun _ _ _ h => h) (Or.inl ⟨by rfl, ?hy12⟩) (by assumption) ?rest12
    case hy12 => (intro w hSw; (try dsimp only at hSw); go_simp; try with_reducible rfl)
    try simp only [Act.put, List.setIfInBounds_toArray, List.set_cons_zero, List.set_cons_succ]
    refine wpAnyH_take (i := 4) (oi := _) (v := ?v13) (by simp only [List.getElem?_toArray, List.getElem?_cons_succ, List.getElem?_cons_zero]; rfl) (by kernel_rfl) (by kernel_rfl) (by kernel_rfl) (by exact fun _ _ _ h => h) (Or.inl ⟨by rfl, ?hy13⟩) (by assumption) ?rest13
    case hy13 => (intro w hSw; (try dsimp only at hSw); go_simp; try with_reducible rfl)
    try simp only [Act.put, List.setIfInBounds_toArray, List.set_cons_zero, List.set_cons_succ]
    refine wpAnyH_ready (rs := [5]) (by kernel_rfl) (by simp) ?_
    refine AllReadyH.cons (o := _) (by simp only [List.getElem?_toArray, List.getElem?_cons_succ, List.getElem?_cons_zero]; rfl) (fun K hK => ?_) AllReadyH.nil
    go_simp
    go_at_call 41
    (with_reducible refine (FRM.out _ (Below.refl _ _).drew).mono ?_)
    rintro e wf ⟨⟨vf, rfl, hBf⟩, hbf⟩
    have GF := Lib.hid ((Below.refl w2.heap.size w2).drew.trans hbf)
    have STF := Lib.hid (ST2.out.below GF.out)
    have QF := Lib.hid (show QRow wf w1.heap.size 89 _ (turnL rows l) from own_below Q2.out GF.out)
    have hff := hBf.rd.weak
    have hbl : ∀ g, vf.ownBlock = some g → w2.heap.size ≤ g := fun g hg => (hBf.lt g hg).1
    obtain ⟨Af, cf, rfl⟩ := own_form hBf
    have BF := Lib.hid (B2.out.chain GF.out); have FF := Lib.hid hff; have FB := Lib.hid hbl
    clear hbf hBf hff hbl
    dsimp only
    refine hK.out _ _ (STF.out.cells.1) (fun hHeld => ?_)
    clear hK K
    try simp only [Act.put, List.setIfInBounds_toArray, List.set_cons_zero, List.set_cons_succ]
    refine wpAnyH_ready (rs := [6]) (by kernel_rfl) (by simp) ?_
    refine AllReadyH.cons (o := _) (by simp only [List.getElem?_toArray, List.getElem?_cons_succ, List.getElem?_cons_zero]; rfl) (fun K hK => ?_) AllReadyH.nil
    go_simp
    go_at_call 42
    (with_reducible refine (refWrite_any q _ t _ _ (by rw [frameL_len]; have := BL.out; omega) (by have := HTL.out; omega) wf STF.out.tape OK.out.fuse FF.out).mono ?_)
    rintro e wx ⟨rfl, ⟨v', hrt, hv'⟩, hon⟩
    have RTX := Lib.hid hrt; have ONX := Lib.hid hon; have VW := Lib.hid (.inr hv' : v' = .slice Av tl cv ∨ ∀ g, v'.ownBlock = some g → wf.heap.size ≤ g)
    clear hrt hon hv'
    rw [HE0.out]
    dsimp only
    refine hK.out _ _ (((STF.out.turn RTX.out ONX.out VW.out).cells.1)) (fun hHeld => ?_)
    clear hK K
    try simp only [Act.put, List.setIfInBounds_toArray, List.set_cons_zero, List.set_cons_succ]
    refine wpAnyH_take (i := 7) (oi := _) (v := ?v16) (by simp only [List.getElem?_toArray, List.getElem?_cons_succ, List.getElem?_cons_zero]; rfl) (by kernel_rfl) (by kernel_rfl) (by kernel_rfl) (by exact fun _ _ _ h => h) (Or.inl ⟨by rfl, ?hy16⟩) (by assumption) ?rest16
    case hy16 => (intro w hSw; (try dsimp only at hSw); go_simp; try with_reducible rfl)
    try simp only [Act.put, List.setIfInBounds_toArray, List.set_cons_zero, List.set_cons_succ]
    refine wpAnyH_done (by kernel_rfl) ?_ _
    clear hHeld

    have hqlt : q < w.heap.size := ST.out.tape.lt
    have hstx := STF.out.turn RTX.out ONX.out VW.out
    have hplt : p < w.heap.size := ST.out.lt
    have hgrow : ∀ g, (Value.slice A2 x2 c2).ownBlock = some g → w.heap.size ≤ g ∧ g < wf.heap.size := fun g hg => ⟨Nat.le_trans B1.out.size (QF.out.lt g (by rw [HX2.out]; exact hg)).1, (QF.out.lt g (by rw [HX2.out]; exact hg)).2⟩
    have hrowx : RdR wx (.slice A2 x2 c2) (turnL rows l) := by
      have h1 := QF.out.rd
      rw [HX2.out] at h1
      exact h1.only ONX.out (fun g hg e => by have := (hgrow g hg).1; omega)
    have honly : Only (fun b => b = p ∨ b = q) w wx := (Only.of_below BF.out).then ONX.out (fun i hi _ => .inr hi)
    have hvx : v' = .slice Av tl cv ∨ ∀ g, v'.ownBlock = some g → w.heap.size ≤ g := VW.out.imp id (fun h g hg => Nat.le_trans BF.out.size (h g hg))
    have STX := Lib.hid hstx; have ROWX := Lib.hid hrowx; have ONLYX := Lib.hid honly; have VX := Lib.hid hvx
    have FARP := Lib.hid (fun (e : (Value.slice A2 x2 c2).ownBlock = some p) => by have := (hgrow p e).1; omega : (Value.slice A2 x2 c2).ownBlock ≠ some p)
    have FARQ := Lib.hid (fun (e : (Value.slice A2 x2 c2).ownBlock = some q) => by have := (hgrow q e).1; omega : (Value.slice A2 x2 c2).ownBlock ≠ some q)
    have FARW := Lib.hid (fun g hg => (hgrow g hg).1 : ∀ g, (Value.slice A2 x2 c2).ownBlock = some g → w.heap.size ≤ g)
    clear hstx hrowx honly hvx hgrow hqlt hplt
    rw [HT1.out] at STX RTX
    by_cases hE1 : E1 = 0
    · have hE12 : (E1 == 0) = true := by rw [hE1]; rfl
      have hres := RES0.out
      rw [if_pos hE1] at hres
      have RESX := Lib.hid hres
      obtain ⟨g0, -, -⟩ := STX.out.cells
      have hsy := refSync_any q v' T1 L1.out wx STX.out.tape OK1.out.1.fuse
      rw [HE3.out, HT2.out] at hsy
      have SY := Lib.hid hsy
      clear hres hsy
      go_wp2_with fail
      refine SY.out.mono ?_
      rintro e wy ⟨rfl, hry, hoy⟩
      have hsty := STX.out.turn hry hoy (.inl rfl)
      have hqlt : q < w.heap.size := ST.out.tape.lt
      have hrowy := ROWX.out.only hoy (fun g hg e => by have := FARW.out g hg; omega)
      have honly := ONLYX.out.then hoy (fun i hi _ => .inr hi)
      have STX := Lib.hid hsty; have ROWX := Lib.hid hrowy; have ONLYX := Lib.hid honly
      clear hsty hrowy honly hqlt hry hoy
      dsimp only
      by_cases hE : E = 0
      · have hE2 : (E == 0) = true := by rw [hE]; rfl
        obtain ⟨-, g1, g2⟩ := STX.out.cells
        have hlay := STX.out.lay ROWX.out FARP.out FARQ.out
        have LAY := Lib.hid hlay
        have honly := ONLYX.out.set (b := p) (o := 1) (.inl rfl) (.slice A2 x2 c2)
        have ONL := Lib.hid honly
        clear hlay honly
        go_wp2
        go_ret
        rw [RESX.out, if_pos hE]
        exact ⟨rfl, ⟨_, _, LAY.out, VX.out, .inr FARW.out⟩, ONL.out⟩
      · have hE2 : (E == 0) = false := by rw [beq_eq_false_iff_ne]; exact hE
        go_wp2
        go_ret
        rw [RESX.out, if_neg hE]
        exact ⟨rfl, ⟨_, _, STX.out, VX.out, .inl rfl⟩, ONLYX.out⟩

    · have hE12 : (E1 == 0) = false := by rw [beq_eq_false_iff_ne]; exact hE1
      have hres := RES0.out
      rw [if_neg hE1] at hres
      have RESX := Lib.hid hres
      clear hres
      go_wp2
      go_ret
      rw [RESX.out]
      exact ⟨rfl, ⟨_, _, STX.out, VX.out, .inl rfl⟩, ONLYX.out⟩
end Go.Proofs.YtklhdffbaglkdaaDoor
namespace Go.Proofs.YtklhdffbaglkdaaDoor
open Go.RowKit
set_option linter.unusedVariables false
set_option linter.unusedSimpArgs false

theorem splitF_sum : ∀ (f : Nat) (l : List UInt8), (splitF f l).1.flatten.length ≤ l.length
  | 0, _ => Nat.zero_le _
  | f + 1, l => by
    unfold splitF
    cases h : firstL l with
    | none => exact Nat.zero_le _
    | some n =>
      have h1 := (firstL_some h).1
      have h2 := splitF_sum f (l.drop (8 + n))
      rw [List.length_drop] at h2
      show (((l.drop 8).take n) :: (splitF f (l.drop (8 + n))).1).flatten.length ≤ _
      rw [List.flatten_cons, List.length_append, List.length_take, List.length_drop]
      omega
theorem splitL_sum (l : List UInt8) : (splitL l).1.flatten.length ≤ l.length := splitF_sum _ _
theorem splitF_eat : ∀ (f : Nat) (l : List UInt8), (splitF f l).2 ≤ l.length
  | 0, _ => Nat.zero_le _
  | f + 1, l => by
    unfold splitF
    cases h : firstL l with
    | none => exact Nat.zero_le _
    | some n =>
      have h1 := (firstL_some h).1
      have h2 := splitF_eat f (l.drop (8 + n))
      rw [List.length_drop] at h2
      show 8 + n + (splitF f (l.drop (8 + n))).2 ≤ _
      omega
theorem splitL_eat (l : List UInt8) : (splitL l).2 ≤ l.length := splitF_eat _ _
theorem changes_len {b : List UInt8} {l : List Ch} (h : changesL b = some l) : l.length ≤ b.length := by
  unfold changesL at h
  split at h
  · split at h
    · cases h
    · split at h
      · rename_i he
        injection h with h
        subst h
        rw [← he, recL_len]
        have := recAll_len (by assumption)
        omega
      · cases h
  · cases h
theorem mem_flat : ∀ (r : List (List UInt8)) (b : List UInt8), b ∈ r → b.length ≤ r.flatten.length
  | x :: r, b, h => by
    rw [List.flatten_cons, List.length_append]
    rcases List.mem_cons.1 h with rfl | h
    · omega
    · have := mem_flat r b h; omega
theorem foldR_none (r s : List (List UInt8)) (b : List UInt8) (rows x : RowL) (h : foldR rows r = some x) (hb : changesL b = none) : foldR rows (r ++ b :: s) = none := by
  rw [foldR_app, h]
  dsimp only
  rw [foldR_cons, hb]
theorem turnL_len' : ∀ (l : List Ch) (rows : RowL), (turnL rows l).length ≤ rows.length + l.length := turnL_len
theorem foldR_len : ∀ (r : List (List UInt8)) (rows x : RowL), foldR rows r = some x → x.length ≤ rows.length + r.flatten.length
  | [], rows, x, h => by
    have h : some rows = some x := h
    injection h with h
    rw [h]; exact Nat.le_add_right _ _
  | b :: r, rows, x, h => by
    rw [foldR_cons] at h
    cases hb : changesL b with
    | none => rw [hb] at h; cases h
    | some l =>
      rw [hb] at h
      have h1 := foldR_len r _ x h
      have h2 := turnL_len l rows
      have h3 := changes_len hb
      rw [List.flatten_cons, List.length_append]
      omega
/-- a store that has been opened, or why none -/
def Opened (w w' : World) (q : Nat) (t : TP) (e : Ending) : Prop :=
  ((openS t).1 = 0 ∧ ∃ p v' rv', e = .returned (.tuple #[.pointer (some ⟨p, 0, none⟩), .int .i64 0]) ∧ w.heap.size ≤ p ∧ RStore w' p q v' rv' (openS t).2.2 (openS t).2.1 ∧ (∀ g, rv'.ownBlock = some g → w.heap.size ≤ g)) ∨
  ((openS t).1 ≠ 0 ∧ e = .returned (.tuple #[.pointer none, .int .i64 (openS t).1]))
set_option maxRecDepth 100000 in
set_option maxHeartbeats 8000000 in
theorem refOpen_any (q : Nat) (v : Value) (t : TP) (ht : t.Ok) (htl : t.b.length ≤ 100000) (w : World) (h : RT w q v t) :
    Calls Tryd.prog 13 #[.pointer (some ⟨q, 0, none⟩)] w fun e w' => Opened w w' q t e ∧ (∃ v', RT w' q v' (openS t).2.2 ∧ (v' = v ∨ ∀ g, v'.ownBlock = some g → w.heap.size ≤ g)) ∧ Only (fun b => b = q) w w' := by
  obtain ⟨tl, htl2⟩ : ∃ n, t.b.length = n := ⟨_, rfl⟩
  obtain ⟨Av, cv, rfl⟩ : ∃ Av cv, v = .slice Av tl cv := by
    obtain ⟨A1, c1, e, _⟩ := h.rd
    exact ⟨A1, c1, by rw [e, htl2]⟩
  obtain ⟨W1, hW1⟩ : ∃ W1, W1 = w.alloc (.cells #[.pointer (some ⟨q, 0, none⟩), .slice none 0 0] 49) := ⟨_, rfl⟩
  obtain ⟨p, hp⟩ : ∃ p, w.heap.size = p := ⟨_, rfl⟩
  have hb1 : Below w.heap.size w W1 := by rw [hW1]; exact (Below.refl _ _).alloc (Nat.le_refl _) _
  have hst1 : RStore W1 p q (.slice Av tl cv) (.slice none 0 0) t [] := by
    refine ⟨?_, h.below hb1, ⟨none, 0, rfl, Nat.le_refl _, fun _ => rfl, fun k r hk => by simp only [List.getElem?_nil] at hk; cases hk⟩, ?_, ?_, (fun e => by cases e), (fun e => by cases e)⟩
    · rw [hW1, ← hp]; exact heap_alloc_last w _
    · have := h.lt; omega
    · intro e; have := h.rd.lt e; omega
  have hz1 : W1.heap.size = p + 1 := by rw [hW1, ← hp]; simp
  have hrd1 : RdW W1 (.slice Av t.b.length cv) t.b := by
    have h1 := (h.rd.below hb1).weak
    rw [htl2]; exact h1
  have hsp := refSplit_more Av cv t.b htl W1 hrd1
  obtain ⟨LS, hLS⟩ : ∃ LS, (splitL t.b).1 = LS := ⟨_, rfl⟩
  obtain ⟨NE, hNE⟩ : ∃ NE, (splitL t.b).2 = NE := ⟨_, rfl⟩
  have hsum := splitL_sum t.b
  have heat := splitL_eat t.b
  rw [htl2, hLS, hNE] at hsp
  rw [htl2, hLS] at hsum
  rw [htl2, hNE] at heat
  rw [htl2] at htl
  have e0 : w.cell? ⟨q, 0, none⟩ = some (.slice Av tl cv) := (box4_of h.box).1.1
  have e0' : W1.cell? ⟨q, 0, none⟩ = some (.slice Av tl cv) := (box4_of hst1.tape.box).1.1
  have SP := Lib.hid hsp; have ST1 := Lib.hid hst1; have SUM := Lib.hid hsum; have EAT := Lib.hid heat; have HLS := Lib.hid hLS; have HNE := Lib.hid hNE; have HTL := Lib.hid htl2; have B1 := Lib.hid hb1; have OK := Lib.hid ht; have RT0 := Lib.hid h; have Z1 := Lib.hid hz1; have HP := Lib.hid hp
  clear hsp hst1 hsum heat hLS hNE htl2 hb1 ht h hz1 hrd1
  go_enter Tryd.func13, Tryd.ntmps13
  go_upto_region 2 with fail
  rw [← hW1]
  clear hW1 hp e0
  go_wp2_with fail
  refine SP.out.mono ?_
  rintro e w2 ⟨⟨v2, vs, rfl, hrow, hel⟩, hb2⟩
  have ST2 := Lib.hid (ST1.out.below hb2); have B2 := Lib.hid hb2; have ROW := Lib.hid hrow; have EL := Lib.hid hel
  obtain ⟨A2, c2, rfl⟩ := own_form hrow.1
  obtain ⟨n, hn⟩ : ∃ n, LS.length = n := ⟨_, rfl⟩
  rw [hn]
  have HN := Lib.hid hn
  have hn5 : n ≤ 100000 := by
    have h1 := splitL_few t.b
    rw [HLS.out, hn, HTL.out] at h1
    omega
  clear hrow hel hb2 hn e0'
  dsimp only
  go_wp2_with fail
  have hqlt : q < w.heap.size := RT0.out.lt
  have hgrow : ∀ k (hk : k < LS.length), ∃ g2 au cu, A2 = some ⟨g2, 0, none⟩ ∧ (∀ W, Only (fun b => b = p) w2 W → W.cell? ⟨g2, k, none⟩ = some (.slice au LS[k].length cu) ∧ RdW W (.slice au LS[k].length cu) LS[k]) := fun k hk => by
    obtain ⟨u, hu, hr⟩ := ROW.out.2.2.2 k _ (List.getElem?_eq_getElem hk)
    obtain ⟨au, cu, rfl⟩ := rdw_form hr
    rcases ROW.out.1.2 with ⟨_, h0⟩ | ⟨g2, cap, cur, e, hB, hg, _⟩
    · omega
    · injection e with e _ _
      subst e
      have hc := World.ownsRow.cells (g := g2) ROW.out.1 rfl k _ hu
      rw [Addr.add_lit, Nat.zero_add] at hc
      have hgl := (Array.getElem?_eq_some_iff.1 hg).1
      refine ⟨g2, au, cu, rfl, fun W ho => ⟨(World.cell?_of_block (ho.block g2 hgl (by have := Z1.out; omega))).trans hc, hr.only ho fun g' hg' e => ?_⟩⟩
      have h1 := EL.out _ (List.mem_of_getElem? hu) g' hg'
      have h2 := ST2.out.vp
      rw [e] at h1
      cases Av with
      | none => cases h1
      | some a => exact h2 h1
  have GROW := Lib.hid hgrow; clear hgrow
  go_loopw [7] (fun i W => ∃ (k : Nat) (rows : RowL) (rv : Value), k ≤ n ∧ i = .int .i64 k ∧ Hid (RStore W p q (.slice Av tl cv) rv t rows ∧ foldR [] (LS.take k) = some rows ∧ (∀ g, rv.ownBlock = some g → w.heap.size ≤ g) ∧ Only (fun b => b = p) w2 W)) (fun i _ => n - (intOf i).toNat)
  case atStart => exact ⟨0, [], .slice none 0 0, Nat.zero_le _, rfl, Lib.hid ⟨ST2.out, rfl, (fun g hg => by cases hg), Only.refl _ _⟩⟩
  case round =>
    obtain ⟨k, rows, rv, hk, rfl, hT⟩ := hrel
    by_cases hlt : k < n
    · have hkr : decide ((k : Int) < n) = true := by simp; omega
      have hkl : k < LS.length := by rw [HN.out]; exact hlt
      have hk0 : (0 : Int) ≤ k := by omega
      have hk1 : (k : Int) < n := by omega
      obtain ⟨g2, au, cu, rfl, hat⟩ := GROW.out k hkl
      obtain ⟨bk, hbk⟩ : ∃ b, LS[k] = b := ⟨_, rfl⟩
      have htk : LS.take (k + 1) = LS.take k ++ [bk] := by rw [List.take_succ_eq_append_getElem hkl, hbk]
      have hsplit : LS = LS.take k ++ bk :: LS.drop (k + 1) := by rw [← hbk, ← List.drop_eq_getElem_cons hkl, List.take_append_drop]
      have hbkl : bk.length ≤ 100000 := by
        have h1 := mem_flat LS bk (by rw [← hbk]; exact List.getElem_mem hkl)
        have := SUM.out
        omega
      rw [hbk] at hat
      obtain ⟨c0, hrd⟩ := hat wr hT.out.2.2.2
      have hch := refChanges_any au cu bk hbkl wr hrd
      obtain ⟨bl, hbl⟩ : ∃ n, bk.length = n := ⟨_, rfl⟩
      rw [hbl] at hch c0
      have hrl := foldR_len (LS.take k) [] rows hT.out.2.1
      have hrl2 : (LS.take k).flatten.length ≤ LS.flatten.length := by
        have e : LS.flatten = (LS.take k).flatten ++ (LS.drop k).flatten := by rw [← List.flatten_append, List.take_append_drop]
        rw [e, List.length_append]; omega
      have hrl3 : rows.length ≤ 100000 := by have := SUM.out; have h0 : ([] : RowL).length = 0 := rfl; omega
      have CH := Lib.hid hch; have TK := Lib.hid htk; have SPL := Lib.hid hsplit; have RL := Lib.hid hrl3; have BKL := Lib.hid hbkl
      clear hch htk hsplit hrl hrl2 hrl3 hbkl hrd hat hbl hbk hkl
      go_wp2_with fail
      refine CH.out.mono ?_
      rintro e w3 ⟨⟨v3, rfl, hv3⟩, hb3⟩
      have B3 := Lib.hid hb3; have ST3 := Lib.hid (hT.out.1.below hb3); clear hb3
      dsimp only
      cases hc : changesL bk with
      | none =>
        have hno : openS t = (2, [], t) := by
          unfold openS
          rw [HLS.out, SPL.out, foldR_none _ _ _ _ _ hT.out.2.1 hc]
        have NO := Lib.hid hno
        have htape := ST3.out.tape
        have TAPE := Lib.hid htape
        clear hc hno hv3 htape
        simp only [Option.isSome_none]
        go_wp2
        go_ret2
        refine ⟨.inr ⟨by rw [NO.out]; show (2 : Int) ≠ 0; decide, by rw [NO.out]; rfl⟩, ⟨_, by rw [NO.out]; exact TAPE.out, .inl rfl⟩, ?_⟩
        exact (Only.of_below (S := fun b => b = q) (B1.out.chain B2.out)).then ((hT.out.2.2.2).trans (Only.of_below B3.out)) (fun i hi hlt => by have := HP.out; omega)
      | some l =>
        have hrc := hv3 l hc
        have hll := changes_len hc
        have hnext : foldR [] (LS.take (k + 1)) = some (turnL rows l) := by
          rw [TK.out, foldR_snoc, hT.out.2.1]
          dsimp only
          rw [hc]
        obtain ⟨Ac, cc, rfl⟩ : ∃ A c, v3 = .slice A l.length c := by
          obtain ⟨A, c, e, _⟩ := hrc
          exact ⟨A, c, e⟩
        obtain ⟨Ar, cr, rfl⟩ := rdr_form ST3.out.rd
        have htu := refTurn_any Ar cr rows Ac cc l RL.out (by have := BKL.out; omega) w3 ST3.out.rd hrc
        have hlo := Only.trans hT.out.2.2.2 (Only.of_below B3.out)
        have NX := Lib.hid hnext; have TU := Lib.hid htu; have LO := Lib.hid hlo
        obtain ⟨g0, g1, g3⟩ := ST3.out.cells
        clear hc hv3 hrc hll hnext htu hlo
        simp only [Option.isSome_some]
        go_wp2_with fail
        refine TU.out.mono ?_
        rintro e w4 ⟨⟨v4, rfl, hq4⟩, hb4⟩
        obtain ⟨A4, c4, rfl⟩ := own_form hq4
        have hst4 := ST3.out.below hb4
        obtain ⟨g0, g1, g3⟩ := hst4.cells
        have hpl := ST3.out.lt
        have hql := ST3.out.tape.lt
        have hlay := hst4.lay (QRow.rd hq4) (fun e => by have := (hq4.lt p e).1; omega) (fun e => by have := (hq4.lt q e).1; omega)
        have hon : Only (fun b => b = p) w2 (w4.setCell ⟨p, 1, none⟩ (.slice A4 (turnL rows l).length c4)) := (Only.trans LO.out (Only.of_below hb4)).set rfl _
        have hw4 : ∀ g, (Value.slice A4 (turnL rows l).length c4).ownBlock = some g → w.heap.size ≤ g := fun g hg => by
          have h1 := (hq4.lt g hg).1
          have h2 := LO.out.size
          have h3 := B2.out.size
          have h4 := B1.out.size
          omega
        have LAY := Lib.hid hlay; have ON := Lib.hid hon; have W4 := Lib.hid hw4
        clear hst4 hlay hon hw4 hq4 hb4 hpl hql
        dsimp only
        go_wp2
        go_roundw
        case rel => exact ⟨k + 1, turnL rows l, _, by omega, by go_num, Lib.hid ⟨LAY.out, NX.out, W4.out, ON.out⟩⟩
        case measure => simp [intOf]; omega
    · obtain rfl : k = n := by omega
      have hkr : decide ((k : Int) < k) = false := by simp
      have htk : LS.take k = LS := List.take_of_length_le (by rw [HN.out]; exact Nat.le_refl _)
      have hfold := hT.out.2.1
      rw [htk] at hfold
      have hon : Only (fun b => b = q) w wr := (Only.of_below (S := fun b => b = q) (B1.out.chain B2.out)).then hT.out.2.2.2 (fun i hi hlt => by have := HP.out; omega)
      have e0 : wr.cell? ⟨q, 0, none⟩ = some (.slice Av tl cv) := (box4_of hT.out.1.tape.box).1.1
      have ON := Lib.hid hon; have STX := Lib.hid hT.out.1; have FW := Lib.hid hT.out.2.2.1
      by_cases hcut : NE < tl
      · have hdr : decide ((NE : Int) < tl) = true := by simp; omega
        obtain ⟨E, hE⟩ : ∃ E, (t.swap (t.b.take NE)).2 = E := ⟨_, rfl⟩
        obtain ⟨T2, hT2⟩ : ∃ T, (t.swap (t.b.take NE)).1 = T := ⟨_, rfl⟩
        have hop : openS t = if E = 0 then (0, rows, T2) else (E, [], T2) := by
          unfold openS
          rw [HLS.out, hfold]
          dsimp only
          rw [HNE.out, HTL.out, if_pos hcut, hE, hT2]
        have hrt := (STX.out.tape.rd).weak
        have hrt2 : RdW wr (.slice Av NE cv) (t.b.take NE) := by
          have h1 := hrt
          rw [← HTL.out] at h1
          exact h1.take NE (by rw [HTL.out]; omega)
        have hsw := refSwap_any q (.slice Av tl cv) t (.slice Av NE cv) (t.b.take NE) (by have := List.length_take_le NE t.b; omega) wr STX.out.tape OK.out.fuse hrt2 (fun e => STX.out.tape.far (by have h1 := rdBlock_own e; cases Av with | none => cases h1 | some a => exact h1))
        rw [hE, hT2] at hsw
        have hn0 : (0 : Int) ≤ NE := by omega
        have hn1 : (NE : Int) ≤ cv := by
          obtain ⟨A', c', e, hc', _⟩ := hrt
          injection e with _ _ e3
          have := HTL.out
          omega
        have SW := Lib.hid hsw; have OP := Lib.hid hop
        clear hsw hop hrt hrt2 hE hT2 hfold hon htk hT
        go_wp2_with fail
        refine SW.out.mono ?_
        rintro e wx ⟨rfl, ⟨v', hrt', hv'⟩, hox⟩
        have hvv : v' = .slice Av tl cv ∨ ∀ g, v'.ownBlock = some g → wr.heap.size ≤ g := hv'.imp (fun h => h.1) id
        have hstx := STX.out.turn hrt' hox hvv
        have hvw : v' = .slice Av tl cv ∨ ∀ g, v'.ownBlock = some g → w.heap.size ≤ g := hvv.imp id (fun h g hg => Nat.le_trans ON.out.size (h g hg))
        have STY := Lib.hid hstx; have VW := Lib.hid hvw; have ONY := Lib.hid (ON.out.then hox (fun i hi _ => hi))
        clear hstx hvw hvv hv' hrt' hox
        dsimp only
        by_cases hE0 : E = 0
        · have hE2 : (!E == 0) = false := by rw [hE0]; rfl
          go_wp2
          go_ret2
          rw [OP.out, if_pos hE0]
          refine ⟨.inl ⟨by rw [OP.out, if_pos hE0], p, v', rv, rfl, by rw [HP.out]; exact Nat.le_refl _, ?_, FW.out⟩, ⟨_, STY.out.tape, VW.out⟩, ONY.out⟩
          rw [OP.out, if_pos hE0]
          exact STY.out
        · have hE2 : (!E == 0) = true := by
            have : (E == 0) = false := by rw [beq_eq_false_iff_ne]; exact hE0
            rw [this]; rfl
          go_wp2
          go_ret2
          rw [OP.out, if_neg hE0]
          exact ⟨.inr ⟨by rw [OP.out, if_neg hE0]; exact hE0, by rw [OP.out, if_neg hE0]; rfl⟩, ⟨_, STY.out.tape, VW.out⟩, ONY.out⟩
      · have hdr : decide ((NE : Int) < tl) = false := by simp; omega
        have hop : openS t = (0, rows, t) := by
          unfold openS
          rw [HLS.out, hfold]
          dsimp only
          rw [HNE.out, HTL.out, if_neg hcut]
        have OP := Lib.hid hop
        clear hop hfold hon htk hT
        go_wp2
        go_ret2
        rw [OP.out]
        refine ⟨.inl ⟨by rw [OP.out], p, .slice Av tl cv, rv, rfl, by rw [HP.out]; exact Nat.le_refl _, ?_, FW.out⟩, ⟨_, STX.out.tape, .inl rfl⟩, ON.out⟩
        rw [OP.out]
        exact STX.out
end Go.Proofs.YtklhdffbaglkdaaDoor
