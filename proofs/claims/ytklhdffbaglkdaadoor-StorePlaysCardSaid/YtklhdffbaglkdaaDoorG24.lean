/- Texts merged by program, in build order: LawStoreP. -/
import Derived.Test.YtklhdffbaglkdaaDoorG23
import Derived.Test.YtklhdffbaglkdaaDoorG05
namespace Go.Proofs.YtklhdffbaglkdaaDoor
open Go.RowKit
set_option linter.unusedVariables false
set_option linter.unusedSimpArgs false

theorem i64_le12 {n : Int} (h : (Lit.int .i64 n).wf = true) : n ≤ 9223372036854775807 := by
  simp [Lit.wf, IntKind.min, IntKind.max, IntKind.signed, IntKind.bits] at h
  omega
set_option maxRecDepth 100000 in
set_option maxHeartbeats 8000000 in
theorem storePlays_at {CT : World → (Nat → Prop) → Nat → TP → Prop} {CS : World → (Nat → Prop) → Nat → Nat → RowL → Prop} (HT : CodeTape CT) (H : CodeStore CT CS) (A : Option Addr) (c : Nat) (acts : List Act12) {w : World} (hA : Acts12 w A acts ∧ acts.length ≤ reachBytes) (hr : RoundsIn w) :
    Calls Tryd.prog 3 #[.slice A acts.length c] w fun e w' => e = .returned (.bool true) ∧ Below w.heap.size w w' := by
  have hans := fun W (hb : Below w.heap.size w W) => answers12_any HT H W (hr.below hb)
  have hact := fun W (hb : Below w.heap.size w W) => hA.1.below hb
  obtain ⟨n, hn⟩ : ∃ n, acts.length = n := ⟨_, rfl⟩
  rw [hn]
  have HANS := Lib.hid hans; have HHT := Lib.hid HT; have HH := Lib.hid H; have HR := Lib.hid hr; have HA := Lib.hid hact; have HN := Lib.hid hn
  clear hans HT H hr hA hact hn
  by_cases h30 : 30 < n
  · have d1 : decide ((30 : Int) < n) = true := by simp; omega
    clear h30
    go_enter Tryd.func3, Tryd.ntmps3
    go_wp2_with fail
    refine (HANS.out _ (Below.refl _ _)).mono ?_
    rintro e w1 ⟨rfl, hb1⟩
    have B1 := Lib.hid hb1; clear hb1
    dsimp only
    go_wp2
    go_ret
    exact ⟨rfl, B1.out⟩
  have d1 : decide ((30 : Int) < n) = false := by simp; omega
  have hn30 : n ≤ 30 := by omega
  clear h30
  go_enter Tryd.func3, Tryd.ntmps3
  go_wp2_with fail
  refine (HHT.out.new w).mono ?_
  rintro e w1 ⟨⟨q, T, rfl, hc1, hs1⟩, hb1⟩
  have HC1 := Lib.hid hc1; have HS1 := Lib.hid hs1; have HB1 := Lib.hid hb1
  clear hc1 hs1 hb1
  dsimp only
  go_wp2_with fail
  refine (refNew_any _).mono ?_
  rintro e w2 ⟨⟨qr, rfl, hq2, hr2⟩, hb2⟩
  have hpre := Pre.start HHT.out HH.out HC1.out HS1.out HB1.out hb2 hq2 hr2 HR.out
  have HPRE := Lib.hid hpre
  clear hpre hr2 hb2 hq2 HC1 HS1 HB1
  dsimp only
  go_wp2_with fail
  refine HPRE.out.mono ?_
  rintro e w3 ⟨p0, rfl, hp3⟩
  have hopen := hp3.open HHT.out HH.out
  have HOPEN := Lib.hid hopen
  clear hopen hp3 HPRE
  dsimp only
  go_wp2_with fail
  refine HOPEN.out.mono ?_
  rintro e w4 ⟨pr0, rfl, hd4⟩
  have HD4 := Lib.hid hd4
  clear hd4 HOPEN
  dsimp only
  go_wp2_with fail
  go_loopw [5, 7, 9] (fun s r i W => ∃ (k p pr : Nat) (t : TP) (rows X : RowL), k ≤ n ∧ i = .int .i64 k ∧ s = .pointer (some ⟨p, 0, none⟩) ∧ r = .pointer (some ⟨pr, 0, none⟩) ∧ Hid ((t.Ok ∧ t.b.length ≤ 65536 ∧ Good t rows X) ∧ Duo CT CS w w (fun _ => False) W p q pr qr t rows t rows)) (fun _ _ i _ => n - (intOf i).toNat)
  case atStart => exact ⟨0, p0, pr0, TP.new, [], [], Nat.zero_le _, rfl, rfl, rfl, Lib.hid ⟨⟨TP.new_ok, by decide, good_new⟩, HD4.out⟩⟩
  case round =>
    obtain ⟨k, p, pr, t, rows, X, hk, rfl, rfl, rfl, hT⟩ := hrel
    by_cases hlt : k < n
    · have hkr : decide ((k : Int) < n) = true := by simp; omega
      obtain ⟨a, ha⟩ : ∃ a, acts[k]? = some a := by
        have := HN.out
        exact ⟨acts[k]'(by omega), List.getElem?_eq_getElem (by omega)⟩
      have hlow := hT.out.2.low
      obtain ⟨g, o, rfl, hg, hc0, hc1, hc2, hc3, hwf1, hwf2, hch⟩ := HA.out wr hlow k a ha
      obtain ⟨g', o', e', _, _, _, _, _, _, _, hchw⟩ := HA.out w (Below.refl _ _) k a ha
      clear e'
      obtain ⟨bv, l, crash, fuse, num⟩ := a
      simp only at hc0 hc1 hc2 hc3 hwf1 hwf2 hch hchw
      obtain ⟨B, cb, rfl, hrc, hown, hll, hzz⟩ := hchw
      clear hch
      have hrw : ∀ W, Below w.heap.size w W → RdC W (.slice B l.length cb) l := fun W hb => hrc.below hb
      have hsmall := fun W (hb : Below w.heap.size w W) => small12_any B cb l hll hzz W (hrw W hb)
      obtain ⟨m, hm⟩ : ∃ m, l.length = m := ⟨_, rfl⟩
      have hk0 : (0 : Int) ≤ k := by omega
      have hk1 : (k : Int) < n := by omega
      obtain ⟨SB, hSB⟩ : ∃ b, smallB l = b := ⟨_, rfl⟩
      have hbd : SB = true → rows.length ≤ 5462 ∧ l.length ≤ 100 ∧ (recL l).length ≤ 1000000 ∧ (recL (allR (turnL rows l))).length ≤ 1000000 ∧ (turnL rows l).length ≤ 5562 ∧ (∀ r ∈ rows, r.1.length ≤ 65536) ∧ Rising rows := fun e => play_bounds hT.out.1.2.2 hT.out.1.2.1 (hSB.trans e)
      -- the act in its box
      obtain ⟨XB, hXB⟩ : ∃ b, wr.heap.size = b := ⟨_, rfl⟩
      obtain ⟨W3, hW3⟩ : ∃ W, wr.alloc (.cells #[.slice B m cb, .bool crash, .int .i64 fuse, .int .i64 num] 37) = W := ⟨_, rfl⟩
      have hb3 : Below wr.heap.size wr W3 := by rw [← hW3]; exact (Below.refl _ _).alloc (Nat.le_refl _) _
      have hbox : W3.heap[XB]? = some (.cells #[.slice B m cb, .bool crash, .int .i64 fuse, .int .i64 num] 37) := by rw [← hW3, ← hXB]; exact heap_alloc_last wr _
      have hd3 : Duo CT CS w W3 (fun b => b = XB) W3 p q pr qr t rows t rows := hT.out.2.mark HHT.out HH.out hb3 fun b hb => by
        rw [hb]; exact ⟨Nat.le_of_eq hXB, (Array.getElem?_eq_some_iff.1 hbox).1⟩
      have hcb : ∀ (W : World) (p pr : Nat) (t u : TP) (rows rows' : RowL), Duo CT CS w W3 (fun b => b = XB) W p q pr qr t rows u rows' → W.cell? ⟨XB, 0, none⟩ = some (.slice B m cb) ∧ W.cell? ⟨XB, 1, none⟩ = some (.bool crash) ∧ W.cell? ⟨XB, 2, none⟩ = some (.int .i64 fuse) ∧ W.cell? ⟨XB, 3, none⟩ = some (.int .i64 num) := fun W p pr t u rows rows' d => by
        have hb := (d.at (b := XB) rfl).2.trans hbox
        exact ⟨cell_here hb, cell_here hb, cell_here hb, cell_here hb⟩
      rw [hm] at hrw hsmall hc0 hown
      rw [hSB] at hsmall
      have HSM := Lib.hid hsmall; have HRW := Lib.hid hrw; have HM := Lib.hid hm; have HOWN := Lib.hid hown; have HW1 := Lib.hid hwf1; have HW2 := Lib.hid hwf2; have HBD := Lib.hid hbd; have HCB := Lib.hid hcb; have HD3 := Lib.hid hd3; have HSB := Lib.hid hSB; have HXB := Lib.hid hXB; have HW3 := Lib.hid hW3
      clear hsmall hrw hm hown hwf1 hwf2 hbd hcb hd3 hSB hXB hW3 hrc hll hzz ha hlow hg hb3 hbox
      go_upto_region 10 with fail
      rw [HW3.out, HXB.out]
      obtain ⟨e0, e1, e2, e3⟩ := HCB.out _ _ _ _ _ _ _ HD3.out
      clear hc0 hc1 hc2 hc3
      go_wp2_with fail
      refine (HSM.out _ HD3.out.low).mono ?_
      rintro e w5 ⟨rfl, hb5⟩
      have hd5 := HD3.out.later HHT.out HH.out hb5
      have D5 := Lib.hid hd5
      clear hb5 hd5 e0 e1 e2 e3
      obtain ⟨e0, e1, e2, e3⟩ := HCB.out _ _ _ _ _ _ _ D5.out
      dsimp only
      cases SB with
      | false =>
        go_wp2
        go_roundw
        case rel => exact ⟨k + 1, p, pr, t, rows, X, by omega, by go_num, rfl, rfl, Lib.hid ⟨hT.out.1, D5.out.drop⟩⟩
        case measure => simp [intOf]; omega
      | true =>
        have BD := Lib.hid (HBD.out rfl)
        clear HBD HSM
        cases crash with
        | true =>
          go_wp2_with fail
          refine (D5.out.crash1 HHT.out HH.out hT.out.1.1 (by have := hT.out.1.2.1; omega) num HW2.out).mono ?_
          rintro e w6 ⟨rfl, h6⟩
          have D6 := Lib.hid h6; clear h6 e0 e1 e2 e3
          obtain ⟨e0, e1, e2, e3⟩ := HCB.out _ _ _ _ _ _ _ D6.out
          dsimp only
          go_wp2_with fail
          refine (D6.out.crash2 HHT.out HH.out hT.out.1.1 (by have := hT.out.1.2.1; omega) num HW2.out).mono ?_
          rintro e w7 ⟨rfl, h7⟩
          obtain ⟨Y, T2, hop, hY, hg2, hdn, hfu, hlen⟩ := open_good hT.out.1.2.2 num
          have hcl := (TP.crash_ok hT.out.1.1 num)
          have hok2 := openS_ok hcl.1
          rw [hop] at hok2
          have D7 := Lib.hid h7; have OK2 := Lib.hid hok2.1; have G2 := Lib.hid hg2; have HOP := Lib.hid hop; have LEN := Lib.hid hlen
          have CL := Lib.hid hcl
          clear h7 e0 e1 e2 e3 hop hY hg2 hdn hfu hlen hok2 hcl
          dsimp only
          go_wp2_with fail
          refine (D7.out.open1 HHT.out HH.out CL.out.1 (by have := hT.out.1.2.1; have := CL.out.2.1; have := CL.out.2.2; omega) HR.out HOP.out).mono ?_
          rintro e w8 ⟨P2, rfl, h8⟩
          have D8 := Lib.hid h8; clear h8
          dsimp only
          go_wp2_with fail
          refine (D8.out.open2 HHT.out HH.out CL.out.1 (by have := hT.out.1.2.1; have := CL.out.2.1; have := CL.out.2.2; omega) HOP.out).mono ?_
          rintro e W0 ⟨PR2, rfl, h9⟩
          have D := Lib.hid h9; clear h9
          have OKT : Hid (T2.Ok ∧ T2.b.length ≤ 65536 ∧ Good T2 Y Y) := Lib.hid ⟨OK2.out, by have := LEN.out; have := hT.out.1.2.1; omega, G2.out⟩
          clear D8 D7 D6 D5 HOP LEN CL OK2 G2
          dsimp only
          have hbd2 : Y.length ≤ 5462 ∧ (∀ r ∈ Y, r.1.length ≤ 65536) ∧ Rising Y := by
            obtain ⟨b1, _, _, _, _, b6, b7⟩ := play_bounds OKT.out.2.2 OKT.out.2.1 (l := []) (by decide)
            exact ⟨b1, b6, b7⟩
          have BD2 := Lib.hid hbd2
          clear hbd2
          obtain ⟨Aq, cq, Ar, cr, hcells⟩ := D.out.cells
          obtain ⟨L, hL⟩ : ∃ L, T2.b.length = L := ⟨_, rfl⟩
          obtain ⟨YL, hYL⟩ : ∃ L, Y.length = L := ⟨_, rfl⟩
          obtain ⟨XT, hXT⟩ : ∃ X : ByteArray, X = ⟨T2.b.toArray⟩ := ⟨_, rfl⟩
          obtain ⟨sr, hsr⟩ : ∃ sr : Nat, T2.sure = sr := ⟨_, rfl⟩
          have cB : ∀ W, Below W0.heap.size W0 W → Calls Tryd.prog 21 #[.pointer (some ⟨q, 0, none⟩)] W fun e w' => (∃ A c, e = .returned (.slice A L c) ∧ (convert 40 9 (.slice A L c)).run Tryd.prog w' = .ok (.string XT) w') ∧ Below W.heap.size W w' := fun W hb =>
            ((D.out.later HHT.out HH.out hb).bytes HHT.out (by have := OKT.out.2.1; omega)).mono fun e w' ⟨⟨A, c, he, hrd⟩, hb⟩ => by
              rw [hL] at he hrd
              exact ⟨⟨A, c, he, by rw [hXT]; exact hrd.text⟩, hb⟩
          have cS : ∀ W, Below W0.heap.size W0 W → Calls Tryd.prog 22 #[.pointer (some ⟨q, 0, none⟩)] W fun e w' => e = .returned (.int .i64 sr) ∧ Below W.heap.size W w' := fun W hb => by
            rw [← hsr]; exact (D.out.later HHT.out HH.out hb).sure HHT.out
          have cM : ∀ W, Below W0.heap.size W0 W → Calls Tryd.prog 20 #[.pointer (some ⟨P2, 0, none⟩), .slice Ar YL cr] W fun e w' => e = .returned (.bool true) ∧ Below W.heap.size W w' := fun W hb => by
            obtain ⟨b1, b2, b3⟩ := BD2.out
            have := (D.out.later HHT.out HH.out hb).same HH.out Ar cr (hcells W hb).2.1 (by omega) (by omega) (fun r hr => by have := b2 r hr; omega) b3
            rw [decide_eq_true rfl, hYL] at this
            exact this
          have cR : ∀ W, Below W0.heap.size W0 W → W.cell? ⟨PR2, 1, none⟩ = some (.slice Ar YL cr) ∧ W.cell? ⟨qr, 0, none⟩ = some (.slice Aq L cq) ∧ W.cell? ⟨qr, 1, none⟩ = some (.int .i64 sr) ∧ (convert 40 9 (.slice Aq L cq)).run Tryd.prog W = .ok (.string XT) W := fun W hb => by
            obtain ⟨⟨b1, b2, b3, _, _⟩, _, h2⟩ := hcells W hb
            rw [hYL] at b1
            rw [hL] at b2 h2
            rw [hsr] at b3
            exact ⟨b1, b2, b3, by rw [hXT]; exact h2.text⟩
          have CB := Lib.hid cB; have CSU := Lib.hid cS; have CM := Lib.hid cM; have CRR := Lib.hid cR
          have hXX : (!XT.toList == XT.toList) = false := by simp
          have hSR : (!((sr : Int) == sr)) = false := by simp
          have B0 : Hid (Below W0.heap.size W0 W0.drew) := Lib.hid (Below.refl _ _).drew
          clear cB cS cM cR hcells hL hYL hXT hsr
          go_upto_region 24 with fail
          refine wp_region_held_drew (S := (fun W => W.cell? ⟨PR2, 1, none⟩ = some (.slice Ar YL cr) ∧ W.cell? ⟨qr, 0, none⟩ = some (.slice Aq L cq) ∧ W.cell? ⟨qr, 1, none⟩ = some (.int .i64 sr) ∧ (convert 40 9 (.slice Aq L cq)).run Tryd.prog W = .ok (.string XT) W)) (by kernel_rfl) (CRR.out _ B0.out) (fun hHeld => ?_)
          refine wpAnyH_take (i := 0) (oi := _) (v := ?v101) (by simp only [List.getElem?_toArray, List.getElem?_cons_succ, List.getElem?_cons_zero]; rfl) (by kernel_rfl) (by kernel_rfl) (by kernel_rfl) (by exact fun _ _ _ h => h) (Or.inl ⟨by rfl, ?hy101⟩) (by assumption) ?rest101
          case hy101 => (intro w hSw; (try dsimp only at hSw); go_simp; try with_reducible rfl)
          try simp only [Act.put, List.setIfInBounds_toArray, List.set_cons_zero, List.set_cons_succ]
          refine wpAnyH_take (i := 1) (oi := _) (v := ?v102) (by simp only [List.getElem?_toArray, List.getElem?_cons_succ, List.getElem?_cons_zero]; rfl) (by kernel_rfl) (by kernel_rfl) (by kernel_rfl) (by exact fun _ _ _ h => h) (Or.inl ⟨by rfl, ?hy102⟩) (by assumption) ?rest102
          case hy102 => (intro w hSw; (try dsimp only at hSw); go_simp; try with_reducible rfl)
          try simp only [Act.put, List.setIfInBounds_toArray, List.set_cons_zero, List.set_cons_succ]
          refine wpAnyH_take (i := 2) (oi := _) (v := ?v103) (by simp only [List.getElem?_toArray, List.getElem?_cons_succ, List.getElem?_cons_zero]; rfl) (by kernel_rfl) (by kernel_rfl) (by kernel_rfl) (by exact fun _ _ _ h => h) (Or.inl ⟨by rfl, ?hy103⟩) (by assumption) ?rest103
          case hy103 => (intro w hSw; (try dsimp only at hSw); go_simp; try with_reducible rfl)
          try simp only [Act.put, List.setIfInBounds_toArray, List.set_cons_zero, List.set_cons_succ]
          refine wpAnyH_take (i := 3) (oi := _) (v := ?v104) (by simp only [List.getElem?_toArray, List.getElem?_cons_succ, List.getElem?_cons_zero]; rfl) (by kernel_rfl) (by kernel_rfl) (by kernel_rfl) (by exact fun _ _ _ h => h) (Or.inl ⟨by rfl, ?hy104⟩) (by assumption) ?rest104
          case hy104 => (intro w hSw; (try dsimp only at hSw); go_simp; try with_reducible rfl)
          try simp only [Act.put, List.setIfInBounds_toArray, List.set_cons_zero, List.set_cons_succ]
          refine wpAnyH_take (i := 4) (oi := _) (v := ?v105) (by simp only [List.getElem?_toArray, List.getElem?_cons_succ, List.getElem?_cons_zero]; rfl) (by kernel_rfl) (by kernel_rfl) (by kernel_rfl) (by exact fun _ _ _ h => h) (Or.inl ⟨by rfl, ?hy105⟩) (by assumption) ?rest105
          case hy105 => (intro w hSw; (try dsimp only at hSw); go_simp; try with_reducible rfl)
          try simp only [Act.put, List.setIfInBounds_toArray, List.set_cons_zero, List.set_cons_succ]
          refine wpAnyH_ready (rs := [5]) (by kernel_rfl) (by simp) ?_
          refine AllReadyH.cons (o := _) (by simp only [List.getElem?_toArray, List.getElem?_cons_succ, List.getElem?_cons_zero]; rfl) (fun K hK => ?_) AllReadyH.nil
          go_simp
          go_at_call 20
          (with_reducible refine (CM.out _ B0.out).mono ?_)
          rintro e v1 ⟨rfl, hb1⟩
          have B1 := Lib.hid (B0.out.chain hb1); clear hb1
          dsimp only
          refine hK.out _ _ (CRR.out _ B1.out) (fun hHeld => ?_)
          clear hK K
          try simp only [Act.put, List.setIfInBounds_toArray, List.set_cons_zero, List.set_cons_succ]
          refine wpAnyH_take (i := 6) (oi := _) (v := ?v107) (by simp only [List.getElem?_toArray, List.getElem?_cons_succ, List.getElem?_cons_zero]; rfl) (by kernel_rfl) (by kernel_rfl) (by kernel_rfl) (by exact fun _ _ _ h => h) (Or.inl ⟨by rfl, ?hy107⟩) (by assumption) ?rest107
          case hy107 => (intro w hSw; (try dsimp only at hSw); go_simp; try with_reducible rfl)
          try simp only [Act.put, List.setIfInBounds_toArray, List.set_cons_zero, List.set_cons_succ]
          refine wpAnyH_take (i := 7) (oi := _) (v := ?v108) (by simp only [List.getElem?_toArray, List.getElem?_cons_succ, List.getElem?_cons_zero]; rfl) (by kernel_rfl) (by kernel_rfl) (by kernel_rfl) (by exact fun _ _ _ h => h) (Or.inl ⟨by rfl, ?hy108⟩) (by assumption) ?rest108
          case hy108 => (intro w hSw; (try dsimp only at hSw); go_simp; try with_reducible rfl)
          try simp only [Act.put, List.setIfInBounds_toArray, List.set_cons_zero, List.set_cons_succ]
          refine wpAnyH_take (i := 8) (oi := _) (v := ?v109) (by simp only [List.getElem?_toArray, List.getElem?_cons_succ, List.getElem?_cons_zero]; rfl) (by kernel_rfl) (by kernel_rfl) (by kernel_rfl) (by exact fun _ _ _ h => h) (Or.inl ⟨by rfl, ?hy109⟩) (by assumption) ?rest109
          case hy109 => (intro w hSw; (try dsimp only at hSw); go_simp; try with_reducible rfl)
          try simp only [Act.put, List.setIfInBounds_toArray, List.set_cons_zero, List.set_cons_succ]
          refine wpAnyH_take (i := 11) (oi := _) (v := ?v110) (by simp only [List.getElem?_toArray, List.getElem?_cons_succ, List.getElem?_cons_zero]; rfl) (by kernel_rfl) (by kernel_rfl) (by kernel_rfl) (by exact fun _ _ _ h => h) (Or.inl ⟨by rfl, ?hy110⟩) (by assumption) ?rest110
          case hy110 => (intro w hSw; (try dsimp only at hSw); go_simp; try with_reducible rfl)
          try simp only [Act.put, List.setIfInBounds_toArray, List.set_cons_zero, List.set_cons_succ]
          refine wpAnyH_take (i := 12) (oi := _) (v := ?v111) (by simp only [List.getElem?_toArray, List.getElem?_cons_succ, List.getElem?_cons_zero]; rfl) (by kernel_rfl) (by kernel_rfl) (by kernel_rfl) (by exact fun _ _ _ h => h) (Or.inl ⟨by rfl, ?hy111⟩) (by assumption) ?rest111
          case hy111 => (intro w hSw; (try dsimp only at hSw); go_simp; try with_reducible rfl)
          try simp only [Act.put, List.setIfInBounds_toArray, List.set_cons_zero, List.set_cons_succ]
          refine wpAnyH_take (i := 13) (oi := _) (v := ?v112) (by simp only [List.getElem?_toArray, List.getElem?_cons_succ, List.getElem?_cons_zero]; rfl) (by kernel_rfl) (by kernel_rfl) (by kernel_rfl) (by exact fun _ _ _ h => h) (Or.inl ⟨by rfl, ?hy112⟩) (by assumption) ?rest112
          case hy112 => (intro w hSw; (try dsimp only at hSw); go_simp; try with_reducible rfl)
          try simp only [Act.put, List.setIfInBounds_toArray, List.set_cons_zero, List.set_cons_succ]
          refine wpAnyH_take (i := 14) (oi := _) (v := ?v113) (by simp only [List.getElem?_toArray, List.getElem?_cons_succ, List.getElem?_cons_zero]; rfl) (by kernel_rfl) (by kernel_rfl) (by kernel_rfl) (by exact fun _ _ _ h => h) (Or.inl ⟨by rfl, ?hy113⟩) (by assumption) ?rest113
          case hy113 => (intro w hSw; (try dsimp only at hSw); go_simp; try with_reducible rfl)
          try simp only [Act.put, List.setIfInBounds_toArray, List.set_cons_zero, List.set_cons_succ]
          refine wpAnyH_take (i := 15) (oi := _) (v := ?v114) (by simp only [List.getElem?_toArray, List.getElem?_cons_succ, List.getElem?_cons_zero]; rfl) (by kernel_rfl) (by kernel_rfl) (by kernel_rfl) (by exact fun _ _ _ h => h) (Or.inl ⟨by rfl, ?hy114⟩) (by assumption) ?rest114
          case hy114 => (intro w hSw; (try dsimp only at hSw); go_simp; try with_reducible rfl)
          try simp only [Act.put, List.setIfInBounds_toArray, List.set_cons_zero, List.set_cons_succ]
          refine wpAnyH_ready (rs := [9]) (by kernel_rfl) (by simp) ?_
          refine AllReadyH.cons (o := _) (by simp only [List.getElem?_toArray, List.getElem?_cons_succ, List.getElem?_cons_zero]; rfl) (fun K hK => ?_) AllReadyH.nil
          go_simp
          go_at_call 21
          (with_reducible refine (CB.out _ B1.out).mono ?_)
          rintro e v2 ⟨⟨A8, c8, rfl, hcv⟩, hb2⟩
          have B2 := Lib.hid (B1.out.chain hb2); clear hb2
          dsimp only
          refine hK.out _ _ (CRR.out _ B2.out) (fun hHeld => ?_)
          clear hK K
          try simp only [Act.put, List.setIfInBounds_toArray, List.set_cons_zero, List.set_cons_succ]
          refine wpAnyH_ready (rs := [10]) (by kernel_rfl) (by simp) ?_
          refine AllReadyH.cons (o := _) (by simp only [List.getElem?_toArray, List.getElem?_cons_succ, List.getElem?_cons_zero]; rfl) (fun K hK => ?_) AllReadyH.nil
          go_simp
          refine hK.out _ _ (by assumption) (fun hHeld => ?_)
          clear hK K
          try simp only [Act.put, List.setIfInBounds_toArray, List.set_cons_zero, List.set_cons_succ]
          refine wpAnyH_take (i := 16) (oi := _) (v := ?v117) (by simp only [List.getElem?_toArray, List.getElem?_cons_succ, List.getElem?_cons_zero]; rfl) (by kernel_rfl) (by kernel_rfl) (by kernel_rfl) (by exact fun _ _ _ h => h) (Or.inl ⟨by rfl, ?hy117⟩) (by assumption) ?rest117
          case hy117 => (intro w hSw; (try dsimp only at hSw); go_simp; try with_reducible rfl)
          try simp only [Act.put, List.setIfInBounds_toArray, List.set_cons_zero, List.set_cons_succ]
          refine wpAnyH_take (i := 17) (oi := _) (v := ?v118) (by simp only [List.getElem?_toArray, List.getElem?_cons_succ, List.getElem?_cons_zero]; rfl) (by kernel_rfl) (by kernel_rfl) (by kernel_rfl) (by exact fun _ _ _ h => h) (Or.inl ⟨by rfl, ?hy118⟩) (by assumption) ?rest118
          case hy118 => (intro w hSw; (try dsimp only at hSw); go_simp; try with_reducible rfl)
          try simp only [Act.put, List.setIfInBounds_toArray, List.set_cons_zero, List.set_cons_succ]
          refine wpAnyH_take (i := 18) (oi := _) (v := ?v119) (by simp only [List.getElem?_toArray, List.getElem?_cons_succ, List.getElem?_cons_zero]; rfl) (by kernel_rfl) (by kernel_rfl) (by kernel_rfl) (by exact fun _ _ _ h => h) (Or.inl ⟨by rfl, ?hy119⟩) (by assumption) ?rest119
          case hy119 => (intro w hSw; (try dsimp only at hSw); go_simp; try with_reducible rfl)
          try simp only [Act.put, List.setIfInBounds_toArray, List.set_cons_zero, List.set_cons_succ]
          refine wpAnyH_take (i := 19) (oi := _) (v := ?v120) (by simp only [List.getElem?_toArray, List.getElem?_cons_succ, List.getElem?_cons_zero]; rfl) (by kernel_rfl) (by kernel_rfl) (by kernel_rfl) (by exact fun _ _ _ h => h) (Or.inl ⟨by rfl, ?hy120⟩) (by assumption) ?rest120
          case hy120 => (intro w hSw; (try dsimp only at hSw); go_simp; try with_reducible rfl)
          try simp only [Act.put, List.setIfInBounds_toArray, List.set_cons_zero, List.set_cons_succ]
          refine wpAnyH_take (i := 21) (oi := _) (v := ?v121) (by simp only [List.getElem?_toArray, List.getElem?_cons_succ, List.getElem?_cons_zero]; rfl) (by kernel_rfl) (by kernel_rfl) (by kernel_rfl) (by exact fun _ _ _ h => h) (Or.inl ⟨by rfl, ?hy121⟩) (by assumption) ?rest121
          case hy121 => (intro w hSw; (try dsimp only at hSw); go_simp; try with_reducible rfl)
          try simp only [Act.put, List.setIfInBounds_toArray, List.set_cons_zero, List.set_cons_succ]
          refine wpAnyH_take (i := 22) (oi := _) (v := ?v122) (by simp only [List.getElem?_toArray, List.getElem?_cons_succ, List.getElem?_cons_zero]; rfl) (by kernel_rfl) (by kernel_rfl) (by kernel_rfl) (by exact fun _ _ _ h => h) (Or.inl ⟨by rfl, ?hy122⟩) (by assumption) ?rest122
          case hy122 => (intro w hSw; (try dsimp only at hSw); go_simp; try with_reducible rfl)
          try simp only [Act.put, List.setIfInBounds_toArray, List.set_cons_zero, List.set_cons_succ]
          refine wpAnyH_take (i := 23) (oi := _) (v := ?v123) (by simp only [List.getElem?_toArray, List.getElem?_cons_succ, List.getElem?_cons_zero]; rfl) (by kernel_rfl) (by kernel_rfl) (by kernel_rfl) (by exact fun _ _ _ h => h) (Or.inl ⟨by rfl, ?hy123⟩) (by assumption) ?rest123
          case hy123 => (intro w hSw; (try dsimp only at hSw); go_simp; try with_reducible rfl)
          try simp only [Act.put, List.setIfInBounds_toArray, List.set_cons_zero, List.set_cons_succ]
          refine wpAnyH_take (i := 24) (oi := _) (v := ?v124) (by simp only [List.getElem?_toArray, List.getElem?_cons_succ, List.getElem?_cons_zero]; rfl) (by kernel_rfl) (by kernel_rfl) (by kernel_rfl) (by exact fun _ _ _ h => h) (Or.inl ⟨by rfl, ?hy124⟩) (by assumption) ?rest124
          case hy124 => (intro w hSw; (try dsimp only at hSw); go_simp; try with_reducible rfl)
          try simp only [Act.put, List.setIfInBounds_toArray, List.set_cons_zero, List.set_cons_succ]
          refine wpAnyH_ready (rs := [20]) (by kernel_rfl) (by simp) ?_
          refine AllReadyH.cons (o := _) (by simp only [List.getElem?_toArray, List.getElem?_cons_succ, List.getElem?_cons_zero]; rfl) (fun K hK => ?_) AllReadyH.nil
          go_simp
          go_at_call 22
          (with_reducible refine (CSU.out _ B2.out).mono ?_)
          rintro e v3 ⟨rfl, hb3⟩
          have B3 := Lib.hid (B2.out.chain hb3); clear hb3
          dsimp only
          refine hK.out _ _ (CRR.out _ B3.out) (fun hHeld => ?_)
          clear hK K
          try simp only [Act.put, List.setIfInBounds_toArray, List.set_cons_zero, List.set_cons_succ]
          refine wpAnyH_take (i := 25) (oi := _) (v := ?v126) (by simp only [List.getElem?_toArray, List.getElem?_cons_succ, List.getElem?_cons_zero]; rfl) (by kernel_rfl) (by kernel_rfl) (by kernel_rfl) (by exact fun _ _ _ h => h) (Or.inl ⟨by rfl, ?hy126⟩) (by assumption) ?rest126
          case hy126 => (intro w hSw; (try dsimp only at hSw); go_simp; try with_reducible rfl)
          try simp only [Act.put, List.setIfInBounds_toArray, List.set_cons_zero, List.set_cons_succ]
          refine wpAnyH_take (i := 26) (oi := _) (v := ?v127) (by simp only [List.getElem?_toArray, List.getElem?_cons_succ, List.getElem?_cons_zero]; rfl) (by kernel_rfl) (by kernel_rfl) (by kernel_rfl) (by exact fun _ _ _ h => h) (Or.inl ⟨by rfl, ?hy127⟩) (by assumption) ?rest127
          case hy127 => (intro w hSw; (try dsimp only at hSw); go_simp; try with_reducible rfl)
          try simp only [Act.put, List.setIfInBounds_toArray, List.set_cons_zero, List.set_cons_succ]
          refine wpAnyH_done (by kernel_rfl) ?_ _
          have DF := Lib.hid ((D.out.later HHT.out HH.out B3.out).drop)
          clear hHeld hXX hSR hcv
          go_wp2
          go_roundw
          case rel => exact ⟨k + 1, P2, PR2, T2, Y, Y, by omega, by go_num, rfl, rfl, Lib.hid ⟨OKT.out, DF.out⟩⟩
          case measure => simp [intOf]; omega
        | false =>
          by_cases hf0 : 0 < fuse
          · have d2 : decide (0 < fuse) = true := by simp [hf0]
            go_wp2_with fail
            refine (D5.out.fuse1 HHT.out HH.out fuse HW1.out).mono ?_
            rintro e w6 ⟨rfl, h6⟩
            have h7 := h6.fuse2 HHT.out HH.out fuse
            obtain ⟨Aq, cq, Ar, cr, hcells⟩ := h6.cells
            obtain ⟨⟨-, -, -, c2, f2⟩, -⟩ := hcells w6 (Below.refl _ _)
            have D6 := Lib.hid h6
            have hsf : t.setFuse fuse = ⟨t.b, t.sure, fuse, t.down⟩ := by unfold TP.setFuse; rw [if_neg (by omega)]
            rw [← hsf] at h7
            obtain ⟨T2, hT2⟩ : ∃ T, t.setFuse fuse = T := ⟨_, rfl⟩
            have hok := TP.fuse_ok hT.out.1.1 fuse (i64_le12 HW1.out)
            have hg2 := hT.out.1.2.2.fuse fuse
            have hl2 : (t.setFuse fuse).b.length ≤ 65536 := hT.out.1.2.1
            rw [hT2] at h7 hok hg2 hl2
            have D7 := Lib.hid h7
            have OKT : Hid (T2.Ok ∧ T2.b.length ≤ 65536 ∧ Good T2 rows X) := Lib.hid ⟨hok, hl2, hg2⟩
            clear h6 h7 e0 e1 e2 e3 hcells hsf hT2 hok hg2 hl2
            obtain ⟨e0, e1, e2, e3⟩ := HCB.out _ _ _ _ _ _ _ D6.out
            dsimp only
            go_upto_region 24 with fail
            obtain ⟨W0, hW0⟩ : ∃ W, w6.setCell ⟨qr, 2, none⟩ (.int .i64 fuse) = W := ⟨_, rfl⟩
            have hd := D7.out
            rw [hW0] at hd ⊢
            have D := Lib.hid hd
            clear hd hW0 e0 e1 e2 e3 c2 f2 D7 D6 D5
            obtain ⟨P2, hP2⟩ : ∃ x, p = x := ⟨_, rfl⟩
            obtain ⟨PR2, hPR2⟩ : ∃ x, pr = x := ⟨_, rfl⟩
            obtain ⟨Y, hYY⟩ : ∃ x, rows = x := ⟨_, rfl⟩
            have hd := D.out
            have hok := OKT.out
            rw [hP2, hPR2, hYY] at hd
            rw [hYY] at hok
            clear D OKT
            have D := Lib.hid hd; have OKT := Lib.hid hok
            rw [hP2, hPR2]
            clear hd hok hP2 hPR2 hYY
            have hbd2 : Y.length ≤ 5462 ∧ (∀ r ∈ Y, r.1.length ≤ 65536) ∧ Rising Y := by
              obtain ⟨b1, _, _, _, _, b6, b7⟩ := play_bounds OKT.out.2.2 OKT.out.2.1 (l := []) (by decide)
              exact ⟨b1, b6, b7⟩
            have BD2 := Lib.hid hbd2
            clear hbd2
            obtain ⟨Aq, cq, Ar, cr, hcells⟩ := D.out.cells
            obtain ⟨L, hL⟩ : ∃ L, T2.b.length = L := ⟨_, rfl⟩
            obtain ⟨YL, hYL⟩ : ∃ L, Y.length = L := ⟨_, rfl⟩
            obtain ⟨XT, hXT⟩ : ∃ X : ByteArray, X = ⟨T2.b.toArray⟩ := ⟨_, rfl⟩
            obtain ⟨sr, hsr⟩ : ∃ sr : Nat, T2.sure = sr := ⟨_, rfl⟩
            have cB : ∀ W, Below W0.heap.size W0 W → Calls Tryd.prog 21 #[.pointer (some ⟨q, 0, none⟩)] W fun e w' => (∃ A c, e = .returned (.slice A L c) ∧ (convert 40 9 (.slice A L c)).run Tryd.prog w' = .ok (.string XT) w') ∧ Below W.heap.size W w' := fun W hb =>
              ((D.out.later HHT.out HH.out hb).bytes HHT.out (by have := OKT.out.2.1; omega)).mono fun e w' ⟨⟨A, c, he, hrd⟩, hb⟩ => by
                rw [hL] at he hrd
                exact ⟨⟨A, c, he, by rw [hXT]; exact hrd.text⟩, hb⟩
            have cS : ∀ W, Below W0.heap.size W0 W → Calls Tryd.prog 22 #[.pointer (some ⟨q, 0, none⟩)] W fun e w' => e = .returned (.int .i64 sr) ∧ Below W.heap.size W w' := fun W hb => by
              rw [← hsr]; exact (D.out.later HHT.out HH.out hb).sure HHT.out
            have cM : ∀ W, Below W0.heap.size W0 W → Calls Tryd.prog 20 #[.pointer (some ⟨P2, 0, none⟩), .slice Ar YL cr] W fun e w' => e = .returned (.bool true) ∧ Below W.heap.size W w' := fun W hb => by
              obtain ⟨b1, b2, b3⟩ := BD2.out
              have := (D.out.later HHT.out HH.out hb).same HH.out Ar cr (hcells W hb).2.1 (by omega) (by omega) (fun r hr => by have := b2 r hr; omega) b3
              rw [decide_eq_true rfl, hYL] at this
              exact this
            have cR : ∀ W, Below W0.heap.size W0 W → W.cell? ⟨PR2, 1, none⟩ = some (.slice Ar YL cr) ∧ W.cell? ⟨qr, 0, none⟩ = some (.slice Aq L cq) ∧ W.cell? ⟨qr, 1, none⟩ = some (.int .i64 sr) ∧ (convert 40 9 (.slice Aq L cq)).run Tryd.prog W = .ok (.string XT) W := fun W hb => by
              obtain ⟨⟨b1, b2, b3, _, _⟩, _, h2⟩ := hcells W hb
              rw [hYL] at b1
              rw [hL] at b2 h2
              rw [hsr] at b3
              exact ⟨b1, b2, b3, by rw [hXT]; exact h2.text⟩
            have CB := Lib.hid cB; have CSU := Lib.hid cS; have CM := Lib.hid cM; have CRR := Lib.hid cR
            have hXX : (!XT.toList == XT.toList) = false := by simp
            have hSR : (!((sr : Int) == sr)) = false := by simp
            have B0 : Hid (Below W0.heap.size W0 W0.drew) := Lib.hid (Below.refl _ _).drew
            clear cB cS cM cR hcells hL hYL hXT hsr
            refine wp_region_held_drew (S := (fun W => W.cell? ⟨PR2, 1, none⟩ = some (.slice Ar YL cr) ∧ W.cell? ⟨qr, 0, none⟩ = some (.slice Aq L cq) ∧ W.cell? ⟨qr, 1, none⟩ = some (.int .i64 sr) ∧ (convert 40 9 (.slice Aq L cq)).run Tryd.prog W = .ok (.string XT) W)) (by kernel_rfl) (CRR.out _ B0.out) (fun hHeld => ?_)
            refine wpAnyH_take (i := 0) (oi := _) (v := ?v201) (by simp only [List.getElem?_toArray, List.getElem?_cons_succ, List.getElem?_cons_zero]; rfl) (by kernel_rfl) (by kernel_rfl) (by kernel_rfl) (by exact fun _ _ _ h => h) (Or.inl ⟨by rfl, ?hy201⟩) (by assumption) ?rest201
            case hy201 => (intro w hSw; (try dsimp only at hSw); go_simp; try with_reducible rfl)
            try simp only [Act.put, List.setIfInBounds_toArray, List.set_cons_zero, List.set_cons_succ]
            refine wpAnyH_take (i := 1) (oi := _) (v := ?v202) (by simp only [List.getElem?_toArray, List.getElem?_cons_succ, List.getElem?_cons_zero]; rfl) (by kernel_rfl) (by kernel_rfl) (by kernel_rfl) (by exact fun _ _ _ h => h) (Or.inl ⟨by rfl, ?hy202⟩) (by assumption) ?rest202
            case hy202 => (intro w hSw; (try dsimp only at hSw); go_simp; try with_reducible rfl)
            try simp only [Act.put, List.setIfInBounds_toArray, List.set_cons_zero, List.set_cons_succ]
            refine wpAnyH_take (i := 2) (oi := _) (v := ?v203) (by simp only [List.getElem?_toArray, List.getElem?_cons_succ, List.getElem?_cons_zero]; rfl) (by kernel_rfl) (by kernel_rfl) (by kernel_rfl) (by exact fun _ _ _ h => h) (Or.inl ⟨by rfl, ?hy203⟩) (by assumption) ?rest203
            case hy203 => (intro w hSw; (try dsimp only at hSw); go_simp; try with_reducible rfl)
            try simp only [Act.put, List.setIfInBounds_toArray, List.set_cons_zero, List.set_cons_succ]
            refine wpAnyH_take (i := 3) (oi := _) (v := ?v204) (by simp only [List.getElem?_toArray, List.getElem?_cons_succ, List.getElem?_cons_zero]; rfl) (by kernel_rfl) (by kernel_rfl) (by kernel_rfl) (by exact fun _ _ _ h => h) (Or.inl ⟨by rfl, ?hy204⟩) (by assumption) ?rest204
            case hy204 => (intro w hSw; (try dsimp only at hSw); go_simp; try with_reducible rfl)
            try simp only [Act.put, List.setIfInBounds_toArray, List.set_cons_zero, List.set_cons_succ]
            refine wpAnyH_take (i := 4) (oi := _) (v := ?v205) (by simp only [List.getElem?_toArray, List.getElem?_cons_succ, List.getElem?_cons_zero]; rfl) (by kernel_rfl) (by kernel_rfl) (by kernel_rfl) (by exact fun _ _ _ h => h) (Or.inl ⟨by rfl, ?hy205⟩) (by assumption) ?rest205
            case hy205 => (intro w hSw; (try dsimp only at hSw); go_simp; try with_reducible rfl)
            try simp only [Act.put, List.setIfInBounds_toArray, List.set_cons_zero, List.set_cons_succ]
            refine wpAnyH_ready (rs := [5]) (by kernel_rfl) (by simp) ?_
            refine AllReadyH.cons (o := _) (by simp only [List.getElem?_toArray, List.getElem?_cons_succ, List.getElem?_cons_zero]; rfl) (fun K hK => ?_) AllReadyH.nil
            go_simp
            go_at_call 20
            (with_reducible refine (CM.out _ B0.out).mono ?_)
            rintro e v1 ⟨rfl, hb1⟩
            have B1 := Lib.hid (B0.out.chain hb1); clear hb1
            dsimp only
            refine hK.out _ _ (CRR.out _ B1.out) (fun hHeld => ?_)
            clear hK K
            try simp only [Act.put, List.setIfInBounds_toArray, List.set_cons_zero, List.set_cons_succ]
            refine wpAnyH_take (i := 6) (oi := _) (v := ?v207) (by simp only [List.getElem?_toArray, List.getElem?_cons_succ, List.getElem?_cons_zero]; rfl) (by kernel_rfl) (by kernel_rfl) (by kernel_rfl) (by exact fun _ _ _ h => h) (Or.inl ⟨by rfl, ?hy207⟩) (by assumption) ?rest207
            case hy207 => (intro w hSw; (try dsimp only at hSw); go_simp; try with_reducible rfl)
            try simp only [Act.put, List.setIfInBounds_toArray, List.set_cons_zero, List.set_cons_succ]
            refine wpAnyH_take (i := 7) (oi := _) (v := ?v208) (by simp only [List.getElem?_toArray, List.getElem?_cons_succ, List.getElem?_cons_zero]; rfl) (by kernel_rfl) (by kernel_rfl) (by kernel_rfl) (by exact fun _ _ _ h => h) (Or.inl ⟨by rfl, ?hy208⟩) (by assumption) ?rest208
            case hy208 => (intro w hSw; (try dsimp only at hSw); go_simp; try with_reducible rfl)
            try simp only [Act.put, List.setIfInBounds_toArray, List.set_cons_zero, List.set_cons_succ]
            refine wpAnyH_take (i := 8) (oi := _) (v := ?v209) (by simp only [List.getElem?_toArray, List.getElem?_cons_succ, List.getElem?_cons_zero]; rfl) (by kernel_rfl) (by kernel_rfl) (by kernel_rfl) (by exact fun _ _ _ h => h) (Or.inl ⟨by rfl, ?hy209⟩) (by assumption) ?rest209
            case hy209 => (intro w hSw; (try dsimp only at hSw); go_simp; try with_reducible rfl)
            try simp only [Act.put, List.setIfInBounds_toArray, List.set_cons_zero, List.set_cons_succ]
            refine wpAnyH_take (i := 11) (oi := _) (v := ?v210) (by simp only [List.getElem?_toArray, List.getElem?_cons_succ, List.getElem?_cons_zero]; rfl) (by kernel_rfl) (by kernel_rfl) (by kernel_rfl) (by exact fun _ _ _ h => h) (Or.inl ⟨by rfl, ?hy210⟩) (by assumption) ?rest210
            case hy210 => (intro w hSw; (try dsimp only at hSw); go_simp; try with_reducible rfl)
            try simp only [Act.put, List.setIfInBounds_toArray, List.set_cons_zero, List.set_cons_succ]
            refine wpAnyH_take (i := 12) (oi := _) (v := ?v211) (by simp only [List.getElem?_toArray, List.getElem?_cons_succ, List.getElem?_cons_zero]; rfl) (by kernel_rfl) (by kernel_rfl) (by kernel_rfl) (by exact fun _ _ _ h => h) (Or.inl ⟨by rfl, ?hy211⟩) (by assumption) ?rest211
            case hy211 => (intro w hSw; (try dsimp only at hSw); go_simp; try with_reducible rfl)
            try simp only [Act.put, List.setIfInBounds_toArray, List.set_cons_zero, List.set_cons_succ]
            refine wpAnyH_take (i := 13) (oi := _) (v := ?v212) (by simp only [List.getElem?_toArray, List.getElem?_cons_succ, List.getElem?_cons_zero]; rfl) (by kernel_rfl) (by kernel_rfl) (by kernel_rfl) (by exact fun _ _ _ h => h) (Or.inl ⟨by rfl, ?hy212⟩) (by assumption) ?rest212
            case hy212 => (intro w hSw; (try dsimp only at hSw); go_simp; try with_reducible rfl)
            try simp only [Act.put, List.setIfInBounds_toArray, List.set_cons_zero, List.set_cons_succ]
            refine wpAnyH_take (i := 14) (oi := _) (v := ?v213) (by simp only [List.getElem?_toArray, List.getElem?_cons_succ, List.getElem?_cons_zero]; rfl) (by kernel_rfl) (by kernel_rfl) (by kernel_rfl) (by exact fun _ _ _ h => h) (Or.inl ⟨by rfl, ?hy213⟩) (by assumption) ?rest213
            case hy213 => (intro w hSw; (try dsimp only at hSw); go_simp; try with_reducible rfl)
            try simp only [Act.put, List.setIfInBounds_toArray, List.set_cons_zero, List.set_cons_succ]
            refine wpAnyH_take (i := 15) (oi := _) (v := ?v214) (by simp only [List.getElem?_toArray, List.getElem?_cons_succ, List.getElem?_cons_zero]; rfl) (by kernel_rfl) (by kernel_rfl) (by kernel_rfl) (by exact fun _ _ _ h => h) (Or.inl ⟨by rfl, ?hy214⟩) (by assumption) ?rest214
            case hy214 => (intro w hSw; (try dsimp only at hSw); go_simp; try with_reducible rfl)
            try simp only [Act.put, List.setIfInBounds_toArray, List.set_cons_zero, List.set_cons_succ]
            refine wpAnyH_ready (rs := [9]) (by kernel_rfl) (by simp) ?_
            refine AllReadyH.cons (o := _) (by simp only [List.getElem?_toArray, List.getElem?_cons_succ, List.getElem?_cons_zero]; rfl) (fun K hK => ?_) AllReadyH.nil
            go_simp
            go_at_call 21
            (with_reducible refine (CB.out _ B1.out).mono ?_)
            rintro e v2 ⟨⟨A8, c8, rfl, hcv⟩, hb2⟩
            have B2 := Lib.hid (B1.out.chain hb2); clear hb2
            dsimp only
            refine hK.out _ _ (CRR.out _ B2.out) (fun hHeld => ?_)
            clear hK K
            try simp only [Act.put, List.setIfInBounds_toArray, List.set_cons_zero, List.set_cons_succ]
            refine wpAnyH_ready (rs := [10]) (by kernel_rfl) (by simp) ?_
            refine AllReadyH.cons (o := _) (by simp only [List.getElem?_toArray, List.getElem?_cons_succ, List.getElem?_cons_zero]; rfl) (fun K hK => ?_) AllReadyH.nil
            go_simp
            refine hK.out _ _ (by assumption) (fun hHeld => ?_)
            clear hK K
            try simp only [Act.put, List.setIfInBounds_toArray, List.set_cons_zero, List.set_cons_succ]
            refine wpAnyH_take (i := 16) (oi := _) (v := ?v217) (by simp only [List.getElem?_toArray, List.getElem?_cons_succ, List.getElem?_cons_zero]; rfl) (by kernel_rfl) (by kernel_rfl) (by kernel_rfl) (by exact fun _ _ _ h => h) (Or.inl ⟨by rfl, ?hy217⟩) (by assumption) ?rest217
            case hy217 => (intro w hSw; (try dsimp only at hSw); go_simp; try with_reducible rfl)
            try simp only [Act.put, List.setIfInBounds_toArray, List.set_cons_zero, List.set_cons_succ]
            refine wpAnyH_take (i := 17) (oi := _) (v := ?v218) (by simp only [List.getElem?_toArray, List.getElem?_cons_succ, List.getElem?_cons_zero]; rfl) (by kernel_rfl) (by kernel_rfl) (by kernel_rfl) (by exact fun _ _ _ h => h) (Or.inl ⟨by rfl, ?hy218⟩) (by assumption) ?rest218
            case hy218 => (intro w hSw; (try dsimp only at hSw); go_simp; try with_reducible rfl)
            try simp only [Act.put, List.setIfInBounds_toArray, List.set_cons_zero, List.set_cons_succ]
            refine wpAnyH_take (i := 18) (oi := _) (v := ?v219) (by simp only [List.getElem?_toArray, List.getElem?_cons_succ, List.getElem?_cons_zero]; rfl) (by kernel_rfl) (by kernel_rfl) (by kernel_rfl) (by exact fun _ _ _ h => h) (Or.inl ⟨by rfl, ?hy219⟩) (by assumption) ?rest219
            case hy219 => (intro w hSw; (try dsimp only at hSw); go_simp; try with_reducible rfl)
            try simp only [Act.put, List.setIfInBounds_toArray, List.set_cons_zero, List.set_cons_succ]
            refine wpAnyH_take (i := 19) (oi := _) (v := ?v220) (by simp only [List.getElem?_toArray, List.getElem?_cons_succ, List.getElem?_cons_zero]; rfl) (by kernel_rfl) (by kernel_rfl) (by kernel_rfl) (by exact fun _ _ _ h => h) (Or.inl ⟨by rfl, ?hy220⟩) (by assumption) ?rest220
            case hy220 => (intro w hSw; (try dsimp only at hSw); go_simp; try with_reducible rfl)
            try simp only [Act.put, List.setIfInBounds_toArray, List.set_cons_zero, List.set_cons_succ]
            refine wpAnyH_take (i := 21) (oi := _) (v := ?v221) (by simp only [List.getElem?_toArray, List.getElem?_cons_succ, List.getElem?_cons_zero]; rfl) (by kernel_rfl) (by kernel_rfl) (by kernel_rfl) (by exact fun _ _ _ h => h) (Or.inl ⟨by rfl, ?hy221⟩) (by assumption) ?rest221
            case hy221 => (intro w hSw; (try dsimp only at hSw); go_simp; try with_reducible rfl)
            try simp only [Act.put, List.setIfInBounds_toArray, List.set_cons_zero, List.set_cons_succ]
            refine wpAnyH_take (i := 22) (oi := _) (v := ?v222) (by simp only [List.getElem?_toArray, List.getElem?_cons_succ, List.getElem?_cons_zero]; rfl) (by kernel_rfl) (by kernel_rfl) (by kernel_rfl) (by exact fun _ _ _ h => h) (Or.inl ⟨by rfl, ?hy222⟩) (by assumption) ?rest222
            case hy222 => (intro w hSw; (try dsimp only at hSw); go_simp; try with_reducible rfl)
            try simp only [Act.put, List.setIfInBounds_toArray, List.set_cons_zero, List.set_cons_succ]
            refine wpAnyH_take (i := 23) (oi := _) (v := ?v223) (by simp only [List.getElem?_toArray, List.getElem?_cons_succ, List.getElem?_cons_zero]; rfl) (by kernel_rfl) (by kernel_rfl) (by kernel_rfl) (by exact fun _ _ _ h => h) (Or.inl ⟨by rfl, ?hy223⟩) (by assumption) ?rest223
            case hy223 => (intro w hSw; (try dsimp only at hSw); go_simp; try with_reducible rfl)
            try simp only [Act.put, List.setIfInBounds_toArray, List.set_cons_zero, List.set_cons_succ]
            refine wpAnyH_take (i := 24) (oi := _) (v := ?v224) (by simp only [List.getElem?_toArray, List.getElem?_cons_succ, List.getElem?_cons_zero]; rfl) (by kernel_rfl) (by kernel_rfl) (by kernel_rfl) (by exact fun _ _ _ h => h) (Or.inl ⟨by rfl, ?hy224⟩) (by assumption) ?rest224
            case hy224 => (intro w hSw; (try dsimp only at hSw); go_simp; try with_reducible rfl)
            try simp only [Act.put, List.setIfInBounds_toArray, List.set_cons_zero, List.set_cons_succ]
            refine wpAnyH_ready (rs := [20]) (by kernel_rfl) (by simp) ?_
            refine AllReadyH.cons (o := _) (by simp only [List.getElem?_toArray, List.getElem?_cons_succ, List.getElem?_cons_zero]; rfl) (fun K hK => ?_) AllReadyH.nil
            go_simp
            go_at_call 22
            (with_reducible refine (CSU.out _ B2.out).mono ?_)
            rintro e v3 ⟨rfl, hb3⟩
            have B3 := Lib.hid (B2.out.chain hb3); clear hb3
            dsimp only
            refine hK.out _ _ (CRR.out _ B3.out) (fun hHeld => ?_)
            clear hK K
            try simp only [Act.put, List.setIfInBounds_toArray, List.set_cons_zero, List.set_cons_succ]
            refine wpAnyH_take (i := 25) (oi := _) (v := ?v226) (by simp only [List.getElem?_toArray, List.getElem?_cons_succ, List.getElem?_cons_zero]; rfl) (by kernel_rfl) (by kernel_rfl) (by kernel_rfl) (by exact fun _ _ _ h => h) (Or.inl ⟨by rfl, ?hy226⟩) (by assumption) ?rest226
            case hy226 => (intro w hSw; (try dsimp only at hSw); go_simp; try with_reducible rfl)
            try simp only [Act.put, List.setIfInBounds_toArray, List.set_cons_zero, List.set_cons_succ]
            refine wpAnyH_take (i := 26) (oi := _) (v := ?v227) (by simp only [List.getElem?_toArray, List.getElem?_cons_succ, List.getElem?_cons_zero]; rfl) (by kernel_rfl) (by kernel_rfl) (by kernel_rfl) (by exact fun _ _ _ h => h) (Or.inl ⟨by rfl, ?hy227⟩) (by assumption) ?rest227
            case hy227 => (intro w hSw; (try dsimp only at hSw); go_simp; try with_reducible rfl)
            try simp only [Act.put, List.setIfInBounds_toArray, List.set_cons_zero, List.set_cons_succ]
            refine wpAnyH_done (by kernel_rfl) ?_ _
            have DF := Lib.hid ((D.out.later HHT.out HH.out B3.out).drop)
            clear hHeld hXX hSR hcv
            go_wp2
            go_roundw
            case rel => exact ⟨k + 1, P2, PR2, T2, Y, X, by omega, by go_num, rfl, rfl, Lib.hid ⟨OKT.out, DF.out⟩⟩
            case measure => simp [intOf]; omega
          · have d2 : decide (0 < fuse) = false := by simp; omega
            have hdo1 : ∀ W, Duo CT CS w W3 (fun b => b = XB) W p q pr qr t rows t rows → Calls Tryd.prog 18 #[.pointer (some ⟨p, 0, none⟩), .slice B m cb] W fun e w' => e = .returned (.int .i64 (doS t rows l).1) ∧ Duo CT CS w W3 (fun b => b = XB) w' p q pr qr (doS t rows l).2.2 (doS t rows l).2.1 t rows := fun W d => by
              obtain ⟨b1, b2, b3, b4, b5, b6, b7⟩ := BD.out
              have := d.do1 HHT.out HH.out B cb l hT.out.1.1 (by have := hT.out.1.2.1; omega) (by omega) HR.out (by rw [HM.out]; exact HRW.out w (Below.refl _ _)) (by omega) b3 b4 (by rw [HM.out]; exact HOWN.out)
              rwa [HM.out] at this
            have hdo2 : ∀ W (u : TP) (R : RowL), Duo CT CS w W3 (fun b => b = XB) W p q pr qr u R t rows → Calls Tryd.prog 19 #[.pointer (some ⟨pr, 0, none⟩), .slice B m cb] W fun e w' => e = .returned (.int .i64 (doS t rows l).1) ∧ Duo CT CS w W3 (fun b => b = XB) w' p q pr qr u R (doS t rows l).2.2 (doS t rows l).2.1 := fun W u R d => by
              obtain ⟨b1, b2, b3, b4, b5, b6, b7⟩ := BD.out
              have := d.do2 HHT.out HH.out B cb l hT.out.1.1 (by have := hT.out.1.2.1; omega) (by omega) (by rw [HM.out]; exact HRW.out w (Below.refl _ _)) (by omega) b3 b4
              rwa [HM.out] at this
            obtain ⟨Y2, hg2, -⟩ := do_good hT.out.1.2.2 l
            have hok2 := doS_ok hT.out.1.1 rows l hT.out.1.2.1
            obtain ⟨E, hE⟩ : ∃ E, (doS t rows l).1 = E := ⟨_, rfl⟩
            obtain ⟨T2, hT2⟩ : ∃ T, (doS t rows l).2.2 = T := ⟨_, rfl⟩
            obtain ⟨Y, hYY⟩ : ∃ T, (doS t rows l).2.1 = T := ⟨_, rfl⟩
            rw [hE, hT2, hYY] at hdo1
            simp only [hE, hT2, hYY] at hdo2
            rw [hT2, hYY] at hg2
            rw [hT2] at hok2
            have OKT : Hid (T2.Ok ∧ T2.b.length ≤ 65536 ∧ Good T2 Y Y2) := Lib.hid ⟨hok2.1, hok2.2, hg2⟩
            have DO1 := Lib.hid hdo1; have DO2 := Lib.hid hdo2
            clear hdo1 hdo2 hg2 hok2 hE hT2 hYY
            have hd6 := D5.out.later HHT.out HH.out ((Below.refl w5.heap.size w5).drew)
            have D6 := Lib.hid hd6; clear hd6
            have hEE : (!E == E) = false := by simp
            go_upto_region 22 with fail
            refine wp_region_held_drew (S := (fun W => W.cell? ⟨XB, 0, none⟩ = some (.slice B m cb))) (by kernel_rfl) ((HCB.out _ _ _ _ _ _ _ D6.out).1) (fun hHeld => ?_)
            refine wpAnyH_take (i := 0) (oi := _) (v := ?v401) (by simp only [List.getElem?_toArray, List.getElem?_cons_succ, List.getElem?_cons_zero]; rfl) (by kernel_rfl) (by kernel_rfl) (by kernel_rfl) (by exact fun _ _ _ h => h) (Or.inl ⟨by rfl, ?hy401⟩) (by assumption) ?rest401
            case hy401 => (intro w hSw; (try dsimp only at hSw); go_simp; try with_reducible rfl)
            try simp only [Act.put, List.setIfInBounds_toArray, List.set_cons_zero, List.set_cons_succ]
            refine wpAnyH_take (i := 1) (oi := _) (v := ?v402) (by simp only [List.getElem?_toArray, List.getElem?_cons_succ, List.getElem?_cons_zero]; rfl) (by kernel_rfl) (by kernel_rfl) (by kernel_rfl) (by exact fun _ _ _ h => h) (Or.inl ⟨by rfl, ?hy402⟩) (by assumption) ?rest402
            case hy402 => (intro w hSw; (try dsimp only at hSw); go_simp; try with_reducible rfl)
            try simp only [Act.put, List.setIfInBounds_toArray, List.set_cons_zero, List.set_cons_succ]
            refine wpAnyH_take (i := 2) (oi := _) (v := ?v403) (by simp only [List.getElem?_toArray, List.getElem?_cons_succ, List.getElem?_cons_zero]; rfl) (by kernel_rfl) (by kernel_rfl) (by kernel_rfl) (by exact fun _ _ _ h => h) (Or.inl ⟨by rfl, ?hy403⟩) (by assumption) ?rest403
            case hy403 => (intro w hSw; (try dsimp only at hSw); go_simp; try with_reducible rfl)
            try simp only [Act.put, List.setIfInBounds_toArray, List.set_cons_zero, List.set_cons_succ]
            refine wpAnyH_take (i := 4) (oi := _) (v := ?v404) (by simp only [List.getElem?_toArray, List.getElem?_cons_succ, List.getElem?_cons_zero]; rfl) (by kernel_rfl) (by kernel_rfl) (by kernel_rfl) (by exact fun _ _ _ h => h) (Or.inl ⟨by rfl, ?hy404⟩) (by assumption) ?rest404
            case hy404 => (intro w hSw; (try dsimp only at hSw); go_simp; try with_reducible rfl)
            try simp only [Act.put, List.setIfInBounds_toArray, List.set_cons_zero, List.set_cons_succ]
            refine wpAnyH_take (i := 5) (oi := _) (v := ?v405) (by simp only [List.getElem?_toArray, List.getElem?_cons_succ, List.getElem?_cons_zero]; rfl) (by kernel_rfl) (by kernel_rfl) (by kernel_rfl) (by exact fun _ _ _ h => h) (Or.inl ⟨by rfl, ?hy405⟩) (by assumption) ?rest405
            case hy405 => (intro w hSw; (try dsimp only at hSw); go_simp; try with_reducible rfl)
            try simp only [Act.put, List.setIfInBounds_toArray, List.set_cons_zero, List.set_cons_succ]
            refine wpAnyH_take (i := 6) (oi := _) (v := ?v406) (by simp only [List.getElem?_toArray, List.getElem?_cons_succ, List.getElem?_cons_zero]; rfl) (by kernel_rfl) (by kernel_rfl) (by kernel_rfl) (by exact fun _ _ _ h => h) (Or.inl ⟨by rfl, ?hy406⟩) (by assumption) ?rest406
            case hy406 => (intro w hSw; (try dsimp only at hSw); go_simp; try with_reducible rfl)
            try simp only [Act.put, List.setIfInBounds_toArray, List.set_cons_zero, List.set_cons_succ]
            refine wpAnyH_ready (rs := [3]) (by kernel_rfl) (by simp) ?_
            refine AllReadyH.cons (o := _) (by simp only [List.getElem?_toArray, List.getElem?_cons_succ, List.getElem?_cons_zero]; rfl) (fun K hK => ?_) AllReadyH.nil
            go_simp
            go_at_call 18
            (with_reducible refine (DO1.out _ D6.out).mono ?_)
            rintro e w7 ⟨rfl, h7⟩
            have D7 := Lib.hid h7; clear h7
            dsimp only
            refine hK.out _ _ ((HCB.out _ _ _ _ _ _ _ D7.out).1) (fun hHeld => ?_)
            clear hK K
            try simp only [Act.put, List.setIfInBounds_toArray, List.set_cons_zero, List.set_cons_succ]
            refine wpAnyH_ready (rs := [7]) (by kernel_rfl) (by simp) ?_
            refine AllReadyH.cons (o := _) (by simp only [List.getElem?_toArray, List.getElem?_cons_succ, List.getElem?_cons_zero]; rfl) (fun K hK => ?_) AllReadyH.nil
            go_simp
            go_at_call 19
            (with_reducible refine (DO2.out _ _ _ D7.out).mono ?_)
            rintro e W0 ⟨rfl, h8⟩
            have D8 := Lib.hid h8; clear h8
            dsimp only
            refine hK.out _ _ ((HCB.out _ _ _ _ _ _ _ D8.out).1) (fun hHeld => ?_)
            clear hK K
            try simp only [Act.put, List.setIfInBounds_toArray, List.set_cons_zero, List.set_cons_succ]
            refine wpAnyH_take (i := 8) (oi := _) (v := ?v409) (by simp only [List.getElem?_toArray, List.getElem?_cons_succ, List.getElem?_cons_zero]; rfl) (by kernel_rfl) (by kernel_rfl) (by kernel_rfl) (by exact fun _ _ _ h => h) (Or.inl ⟨by rfl, ?hy409⟩) (by assumption) ?rest409
            case hy409 => (intro w hSw; (try dsimp only at hSw); go_simp; try with_reducible rfl)
            try simp only [Act.put, List.setIfInBounds_toArray, List.set_cons_zero, List.set_cons_succ]
            refine wpAnyH_done (by kernel_rfl) ?_ _
            have D := Lib.hid (D8.out)
            clear hHeld e0 e1 e2 e3 hEE DO1 DO2 D8 D7 D6 D5
            obtain ⟨P2, hP2⟩ : ∃ x, p = x := ⟨_, rfl⟩
            obtain ⟨PR2, hPR2⟩ : ∃ x, pr = x := ⟨_, rfl⟩
            have hd := D.out
            rw [hP2, hPR2] at hd
            clear D
            have D := Lib.hid hd
            rw [hP2, hPR2]
            clear hd hP2 hPR2
            go_upto_region 24 with fail
            have hbd2 : Y.length ≤ 5462 ∧ (∀ r ∈ Y, r.1.length ≤ 65536) ∧ Rising Y := by
              obtain ⟨b1, _, _, _, _, b6, b7⟩ := play_bounds OKT.out.2.2 OKT.out.2.1 (l := []) (by decide)
              exact ⟨b1, b6, b7⟩
            have BD2 := Lib.hid hbd2
            clear hbd2
            obtain ⟨Aq, cq, Ar, cr, hcells⟩ := D.out.cells
            obtain ⟨L, hL⟩ : ∃ L, T2.b.length = L := ⟨_, rfl⟩
            obtain ⟨YL, hYL⟩ : ∃ L, Y.length = L := ⟨_, rfl⟩
            obtain ⟨XT, hXT⟩ : ∃ X : ByteArray, X = ⟨T2.b.toArray⟩ := ⟨_, rfl⟩
            obtain ⟨sr, hsr⟩ : ∃ sr : Nat, T2.sure = sr := ⟨_, rfl⟩
            have cB : ∀ W, Below W0.heap.size W0 W → Calls Tryd.prog 21 #[.pointer (some ⟨q, 0, none⟩)] W fun e w' => (∃ A c, e = .returned (.slice A L c) ∧ (convert 40 9 (.slice A L c)).run Tryd.prog w' = .ok (.string XT) w') ∧ Below W.heap.size W w' := fun W hb =>
              ((D.out.later HHT.out HH.out hb).bytes HHT.out (by have := OKT.out.2.1; omega)).mono fun e w' ⟨⟨A, c, he, hrd⟩, hb⟩ => by
                rw [hL] at he hrd
                exact ⟨⟨A, c, he, by rw [hXT]; exact hrd.text⟩, hb⟩
            have cS : ∀ W, Below W0.heap.size W0 W → Calls Tryd.prog 22 #[.pointer (some ⟨q, 0, none⟩)] W fun e w' => e = .returned (.int .i64 sr) ∧ Below W.heap.size W w' := fun W hb => by
              rw [← hsr]; exact (D.out.later HHT.out HH.out hb).sure HHT.out
            have cM : ∀ W, Below W0.heap.size W0 W → Calls Tryd.prog 20 #[.pointer (some ⟨P2, 0, none⟩), .slice Ar YL cr] W fun e w' => e = .returned (.bool true) ∧ Below W.heap.size W w' := fun W hb => by
              obtain ⟨b1, b2, b3⟩ := BD2.out
              have := (D.out.later HHT.out HH.out hb).same HH.out Ar cr (hcells W hb).2.1 (by omega) (by omega) (fun r hr => by have := b2 r hr; omega) b3
              rw [decide_eq_true rfl, hYL] at this
              exact this
            have cR : ∀ W, Below W0.heap.size W0 W → W.cell? ⟨PR2, 1, none⟩ = some (.slice Ar YL cr) ∧ W.cell? ⟨qr, 0, none⟩ = some (.slice Aq L cq) ∧ W.cell? ⟨qr, 1, none⟩ = some (.int .i64 sr) ∧ (convert 40 9 (.slice Aq L cq)).run Tryd.prog W = .ok (.string XT) W := fun W hb => by
              obtain ⟨⟨b1, b2, b3, _, _⟩, _, h2⟩ := hcells W hb
              rw [hYL] at b1
              rw [hL] at b2 h2
              rw [hsr] at b3
              exact ⟨b1, b2, b3, by rw [hXT]; exact h2.text⟩
            have CB := Lib.hid cB; have CSU := Lib.hid cS; have CM := Lib.hid cM; have CRR := Lib.hid cR
            have hXX : (!XT.toList == XT.toList) = false := by simp
            have hSR : (!((sr : Int) == sr)) = false := by simp
            have B0 : Hid (Below W0.heap.size W0 W0.drew) := Lib.hid (Below.refl _ _).drew
            clear cB cS cM cR hcells hL hYL hXT hsr
            refine wp_region_held_drew (S := (fun W => W.cell? ⟨PR2, 1, none⟩ = some (.slice Ar YL cr) ∧ W.cell? ⟨qr, 0, none⟩ = some (.slice Aq L cq) ∧ W.cell? ⟨qr, 1, none⟩ = some (.int .i64 sr) ∧ (convert 40 9 (.slice Aq L cq)).run Tryd.prog W = .ok (.string XT) W)) (by kernel_rfl) (CRR.out _ B0.out) (fun hHeld => ?_)
            refine wpAnyH_take (i := 0) (oi := _) (v := ?v301) (by simp only [List.getElem?_toArray, List.getElem?_cons_succ, List.getElem?_cons_zero]; rfl) (by kernel_rfl) (by kernel_rfl) (by kernel_rfl) (by exact fun _ _ _ h => h) (Or.inl ⟨by rfl, ?hy301⟩) (by assumption) ?rest301
            case hy301 => (intro w hSw; (try dsimp only at hSw); go_simp; try with_reducible rfl)
            try simp only [Act.put, List.setIfInBounds_toArray, List.set_cons_zero, List.set_cons_succ]
            refine wpAnyH_take (i := 1) (oi := _) (v := ?v302) (by simp only [List.getElem?_toArray, List.getElem?_cons_succ, List.getElem?_cons_zero]; rfl) (by kernel_rfl) (by kernel_rfl) (by kernel_rfl) (by exact fun _ _ _ h => h) (Or.inl ⟨by rfl, ?hy302⟩) (by assumption) ?rest302
            case hy302 => (intro w hSw; (try dsimp only at hSw); go_simp; try with_reducible rfl)
            try simp only [Act.put, List.setIfInBounds_toArray, List.set_cons_zero, List.set_cons_succ]
            refine wpAnyH_take (i := 2) (oi := _) (v := ?v303) (by simp only [List.getElem?_toArray, List.getElem?_cons_succ, List.getElem?_cons_zero]; rfl) (by kernel_rfl) (by kernel_rfl) (by kernel_rfl) (by exact fun _ _ _ h => h) (Or.inl ⟨by rfl, ?hy303⟩) (by assumption) ?rest303
            case hy303 => (intro w hSw; (try dsimp only at hSw); go_simp; try with_reducible rfl)
            try simp only [Act.put, List.setIfInBounds_toArray, List.set_cons_zero, List.set_cons_succ]
            refine wpAnyH_take (i := 3) (oi := _) (v := ?v304) (by simp only [List.getElem?_toArray, List.getElem?_cons_succ, List.getElem?_cons_zero]; rfl) (by kernel_rfl) (by kernel_rfl) (by kernel_rfl) (by exact fun _ _ _ h => h) (Or.inl ⟨by rfl, ?hy304⟩) (by assumption) ?rest304
            case hy304 => (intro w hSw; (try dsimp only at hSw); go_simp; try with_reducible rfl)
            try simp only [Act.put, List.setIfInBounds_toArray, List.set_cons_zero, List.set_cons_succ]
            refine wpAnyH_take (i := 4) (oi := _) (v := ?v305) (by simp only [List.getElem?_toArray, List.getElem?_cons_succ, List.getElem?_cons_zero]; rfl) (by kernel_rfl) (by kernel_rfl) (by kernel_rfl) (by exact fun _ _ _ h => h) (Or.inl ⟨by rfl, ?hy305⟩) (by assumption) ?rest305
            case hy305 => (intro w hSw; (try dsimp only at hSw); go_simp; try with_reducible rfl)
            try simp only [Act.put, List.setIfInBounds_toArray, List.set_cons_zero, List.set_cons_succ]
            refine wpAnyH_ready (rs := [5]) (by kernel_rfl) (by simp) ?_
            refine AllReadyH.cons (o := _) (by simp only [List.getElem?_toArray, List.getElem?_cons_succ, List.getElem?_cons_zero]; rfl) (fun K hK => ?_) AllReadyH.nil
            go_simp
            go_at_call 20
            (with_reducible refine (CM.out _ B0.out).mono ?_)
            rintro e v1 ⟨rfl, hb1⟩
            have B1 := Lib.hid (B0.out.chain hb1); clear hb1
            dsimp only
            refine hK.out _ _ (CRR.out _ B1.out) (fun hHeld => ?_)
            clear hK K
            try simp only [Act.put, List.setIfInBounds_toArray, List.set_cons_zero, List.set_cons_succ]
            refine wpAnyH_take (i := 6) (oi := _) (v := ?v307) (by simp only [List.getElem?_toArray, List.getElem?_cons_succ, List.getElem?_cons_zero]; rfl) (by kernel_rfl) (by kernel_rfl) (by kernel_rfl) (by exact fun _ _ _ h => h) (Or.inl ⟨by rfl, ?hy307⟩) (by assumption) ?rest307
            case hy307 => (intro w hSw; (try dsimp only at hSw); go_simp; try with_reducible rfl)
            try simp only [Act.put, List.setIfInBounds_toArray, List.set_cons_zero, List.set_cons_succ]
            refine wpAnyH_take (i := 7) (oi := _) (v := ?v308) (by simp only [List.getElem?_toArray, List.getElem?_cons_succ, List.getElem?_cons_zero]; rfl) (by kernel_rfl) (by kernel_rfl) (by kernel_rfl) (by exact fun _ _ _ h => h) (Or.inl ⟨by rfl, ?hy308⟩) (by assumption) ?rest308
            case hy308 => (intro w hSw; (try dsimp only at hSw); go_simp; try with_reducible rfl)
            try simp only [Act.put, List.setIfInBounds_toArray, List.set_cons_zero, List.set_cons_succ]
            refine wpAnyH_take (i := 8) (oi := _) (v := ?v309) (by simp only [List.getElem?_toArray, List.getElem?_cons_succ, List.getElem?_cons_zero]; rfl) (by kernel_rfl) (by kernel_rfl) (by kernel_rfl) (by exact fun _ _ _ h => h) (Or.inl ⟨by rfl, ?hy309⟩) (by assumption) ?rest309
            case hy309 => (intro w hSw; (try dsimp only at hSw); go_simp; try with_reducible rfl)
            try simp only [Act.put, List.setIfInBounds_toArray, List.set_cons_zero, List.set_cons_succ]
            refine wpAnyH_take (i := 11) (oi := _) (v := ?v310) (by simp only [List.getElem?_toArray, List.getElem?_cons_succ, List.getElem?_cons_zero]; rfl) (by kernel_rfl) (by kernel_rfl) (by kernel_rfl) (by exact fun _ _ _ h => h) (Or.inl ⟨by rfl, ?hy310⟩) (by assumption) ?rest310
            case hy310 => (intro w hSw; (try dsimp only at hSw); go_simp; try with_reducible rfl)
            try simp only [Act.put, List.setIfInBounds_toArray, List.set_cons_zero, List.set_cons_succ]
            refine wpAnyH_take (i := 12) (oi := _) (v := ?v311) (by simp only [List.getElem?_toArray, List.getElem?_cons_succ, List.getElem?_cons_zero]; rfl) (by kernel_rfl) (by kernel_rfl) (by kernel_rfl) (by exact fun _ _ _ h => h) (Or.inl ⟨by rfl, ?hy311⟩) (by assumption) ?rest311
            case hy311 => (intro w hSw; (try dsimp only at hSw); go_simp; try with_reducible rfl)
            try simp only [Act.put, List.setIfInBounds_toArray, List.set_cons_zero, List.set_cons_succ]
            refine wpAnyH_take (i := 13) (oi := _) (v := ?v312) (by simp only [List.getElem?_toArray, List.getElem?_cons_succ, List.getElem?_cons_zero]; rfl) (by kernel_rfl) (by kernel_rfl) (by kernel_rfl) (by exact fun _ _ _ h => h) (Or.inl ⟨by rfl, ?hy312⟩) (by assumption) ?rest312
            case hy312 => (intro w hSw; (try dsimp only at hSw); go_simp; try with_reducible rfl)
            try simp only [Act.put, List.setIfInBounds_toArray, List.set_cons_zero, List.set_cons_succ]
            refine wpAnyH_take (i := 14) (oi := _) (v := ?v313) (by simp only [List.getElem?_toArray, List.getElem?_cons_succ, List.getElem?_cons_zero]; rfl) (by kernel_rfl) (by kernel_rfl) (by kernel_rfl) (by exact fun _ _ _ h => h) (Or.inl ⟨by rfl, ?hy313⟩) (by assumption) ?rest313
            case hy313 => (intro w hSw; (try dsimp only at hSw); go_simp; try with_reducible rfl)
            try simp only [Act.put, List.setIfInBounds_toArray, List.set_cons_zero, List.set_cons_succ]
            refine wpAnyH_take (i := 15) (oi := _) (v := ?v314) (by simp only [List.getElem?_toArray, List.getElem?_cons_succ, List.getElem?_cons_zero]; rfl) (by kernel_rfl) (by kernel_rfl) (by kernel_rfl) (by exact fun _ _ _ h => h) (Or.inl ⟨by rfl, ?hy314⟩) (by assumption) ?rest314
            case hy314 => (intro w hSw; (try dsimp only at hSw); go_simp; try with_reducible rfl)
            try simp only [Act.put, List.setIfInBounds_toArray, List.set_cons_zero, List.set_cons_succ]
            refine wpAnyH_ready (rs := [9]) (by kernel_rfl) (by simp) ?_
            refine AllReadyH.cons (o := _) (by simp only [List.getElem?_toArray, List.getElem?_cons_succ, List.getElem?_cons_zero]; rfl) (fun K hK => ?_) AllReadyH.nil
            go_simp
            go_at_call 21
            (with_reducible refine (CB.out _ B1.out).mono ?_)
            rintro e v2 ⟨⟨A8, c8, rfl, hcv⟩, hb2⟩
            have B2 := Lib.hid (B1.out.chain hb2); clear hb2
            dsimp only
            refine hK.out _ _ (CRR.out _ B2.out) (fun hHeld => ?_)
            clear hK K
            try simp only [Act.put, List.setIfInBounds_toArray, List.set_cons_zero, List.set_cons_succ]
            refine wpAnyH_ready (rs := [10]) (by kernel_rfl) (by simp) ?_
            refine AllReadyH.cons (o := _) (by simp only [List.getElem?_toArray, List.getElem?_cons_succ, List.getElem?_cons_zero]; rfl) (fun K hK => ?_) AllReadyH.nil
            go_simp
            refine hK.out _ _ (by assumption) (fun hHeld => ?_)
            clear hK K
            try simp only [Act.put, List.setIfInBounds_toArray, List.set_cons_zero, List.set_cons_succ]
            refine wpAnyH_take (i := 16) (oi := _) (v := ?v317) (by simp only [List.getElem?_toArray, List.getElem?_cons_succ, List.getElem?_cons_zero]; rfl) (by kernel_rfl) (by kernel_rfl) (by kernel_rfl) (by exact fun _ _ _ h => h) (Or.inl ⟨by rfl, ?hy317⟩) (by assumption) ?rest317
            case hy317 => (intro w hSw; (try dsimp only at hSw); go_simp; try with_reducible rfl)
            try simp only [Act.put, List.setIfInBounds_toArray, List.set_cons_zero, List.set_cons_succ]
            refine wpAnyH_take (i := 17) (oi := _) (v := ?v318) (by simp only [List.getElem?_toArray, List.getElem?_cons_succ, List.getElem?_cons_zero]; rfl) (by kernel_rfl) (by kernel_rfl) (by kernel_rfl) (by exact fun _ _ _ h => h) (Or.inl ⟨by rfl, ?hy318⟩) (by assumption) ?rest318
            case hy318 => (intro w hSw; (try dsimp only at hSw); go_simp; try with_reducible rfl)
            try simp only [Act.put, List.setIfInBounds_toArray, List.set_cons_zero, List.set_cons_succ]
            refine wpAnyH_take (i := 18) (oi := _) (v := ?v319) (by simp only [List.getElem?_toArray, List.getElem?_cons_succ, List.getElem?_cons_zero]; rfl) (by kernel_rfl) (by kernel_rfl) (by kernel_rfl) (by exact fun _ _ _ h => h) (Or.inl ⟨by rfl, ?hy319⟩) (by assumption) ?rest319
            case hy319 => (intro w hSw; (try dsimp only at hSw); go_simp; try with_reducible rfl)
            try simp only [Act.put, List.setIfInBounds_toArray, List.set_cons_zero, List.set_cons_succ]
            refine wpAnyH_take (i := 19) (oi := _) (v := ?v320) (by simp only [List.getElem?_toArray, List.getElem?_cons_succ, List.getElem?_cons_zero]; rfl) (by kernel_rfl) (by kernel_rfl) (by kernel_rfl) (by exact fun _ _ _ h => h) (Or.inl ⟨by rfl, ?hy320⟩) (by assumption) ?rest320
            case hy320 => (intro w hSw; (try dsimp only at hSw); go_simp; try with_reducible rfl)
            try simp only [Act.put, List.setIfInBounds_toArray, List.set_cons_zero, List.set_cons_succ]
            refine wpAnyH_take (i := 21) (oi := _) (v := ?v321) (by simp only [List.getElem?_toArray, List.getElem?_cons_succ, List.getElem?_cons_zero]; rfl) (by kernel_rfl) (by kernel_rfl) (by kernel_rfl) (by exact fun _ _ _ h => h) (Or.inl ⟨by rfl, ?hy321⟩) (by assumption) ?rest321
            case hy321 => (intro w hSw; (try dsimp only at hSw); go_simp; try with_reducible rfl)
            try simp only [Act.put, List.setIfInBounds_toArray, List.set_cons_zero, List.set_cons_succ]
            refine wpAnyH_take (i := 22) (oi := _) (v := ?v322) (by simp only [List.getElem?_toArray, List.getElem?_cons_succ, List.getElem?_cons_zero]; rfl) (by kernel_rfl) (by kernel_rfl) (by kernel_rfl) (by exact fun _ _ _ h => h) (Or.inl ⟨by rfl, ?hy322⟩) (by assumption) ?rest322
            case hy322 => (intro w hSw; (try dsimp only at hSw); go_simp; try with_reducible rfl)
            try simp only [Act.put, List.setIfInBounds_toArray, List.set_cons_zero, List.set_cons_succ]
            refine wpAnyH_take (i := 23) (oi := _) (v := ?v323) (by simp only [List.getElem?_toArray, List.getElem?_cons_succ, List.getElem?_cons_zero]; rfl) (by kernel_rfl) (by kernel_rfl) (by kernel_rfl) (by exact fun _ _ _ h => h) (Or.inl ⟨by rfl, ?hy323⟩) (by assumption) ?rest323
            case hy323 => (intro w hSw; (try dsimp only at hSw); go_simp; try with_reducible rfl)
            try simp only [Act.put, List.setIfInBounds_toArray, List.set_cons_zero, List.set_cons_succ]
            refine wpAnyH_take (i := 24) (oi := _) (v := ?v324) (by simp only [List.getElem?_toArray, List.getElem?_cons_succ, List.getElem?_cons_zero]; rfl) (by kernel_rfl) (by kernel_rfl) (by kernel_rfl) (by exact fun _ _ _ h => h) (Or.inl ⟨by rfl, ?hy324⟩) (by assumption) ?rest324
            case hy324 => (intro w hSw; (try dsimp only at hSw); go_simp; try with_reducible rfl)
            try simp only [Act.put, List.setIfInBounds_toArray, List.set_cons_zero, List.set_cons_succ]
            refine wpAnyH_ready (rs := [20]) (by kernel_rfl) (by simp) ?_
            refine AllReadyH.cons (o := _) (by simp only [List.getElem?_toArray, List.getElem?_cons_succ, List.getElem?_cons_zero]; rfl) (fun K hK => ?_) AllReadyH.nil
            go_simp
            go_at_call 22
            (with_reducible refine (CSU.out _ B2.out).mono ?_)
            rintro e v3 ⟨rfl, hb3⟩
            have B3 := Lib.hid (B2.out.chain hb3); clear hb3
            dsimp only
            refine hK.out _ _ (CRR.out _ B3.out) (fun hHeld => ?_)
            clear hK K
            try simp only [Act.put, List.setIfInBounds_toArray, List.set_cons_zero, List.set_cons_succ]
            refine wpAnyH_take (i := 25) (oi := _) (v := ?v326) (by simp only [List.getElem?_toArray, List.getElem?_cons_succ, List.getElem?_cons_zero]; rfl) (by kernel_rfl) (by kernel_rfl) (by kernel_rfl) (by exact fun _ _ _ h => h) (Or.inl ⟨by rfl, ?hy326⟩) (by assumption) ?rest326
            case hy326 => (intro w hSw; (try dsimp only at hSw); go_simp; try with_reducible rfl)
            try simp only [Act.put, List.setIfInBounds_toArray, List.set_cons_zero, List.set_cons_succ]
            refine wpAnyH_take (i := 26) (oi := _) (v := ?v327) (by simp only [List.getElem?_toArray, List.getElem?_cons_succ, List.getElem?_cons_zero]; rfl) (by kernel_rfl) (by kernel_rfl) (by kernel_rfl) (by exact fun _ _ _ h => h) (Or.inl ⟨by rfl, ?hy327⟩) (by assumption) ?rest327
            case hy327 => (intro w hSw; (try dsimp only at hSw); go_simp; try with_reducible rfl)
            try simp only [Act.put, List.setIfInBounds_toArray, List.set_cons_zero, List.set_cons_succ]
            refine wpAnyH_done (by kernel_rfl) ?_ _
            have DF := Lib.hid ((D.out.later HHT.out HH.out B3.out).drop)
            clear hHeld hXX hSR hcv
            go_wp2
            go_roundw
            case rel => exact ⟨k + 1, P2, PR2, T2, Y, Y2, by omega, by go_num, rfl, rfl, Lib.hid ⟨OKT.out, DF.out⟩⟩
            case measure => simp [intOf]; omega
    · obtain rfl : k = n := by omega
      have hkr : decide ((k : Int) < k) = false := by simp
      go_wp2_with fail
      refine (HANS.out _ hT.out.2.low).mono ?_
      rintro e w5 ⟨rfl, hb5⟩
      have hlow := hT.out.2.low.chain hb5
      have LOW := Lib.hid hlow
      clear hb5 hlow
      dsimp only
      go_wp2
      go_ret
      exact ⟨rfl, LOW.out⟩
end Go.Proofs.YtklhdffbaglkdaaDoor
