/- Layer 11's law FrameCuts, out of what the code's frames do. -/
import Derived.Test.YtdflghphjhejdaaDoorLawFrameB
namespace Go.Proofs.YtdflghphjhejdaaDoor
open Go.RowKit
set_option linter.unusedVariables false
set_option linter.unusedSimpArgs false

/-- how many bytes the first j frames take -/
def endF (l : List (List UInt8)) (j : Nat) : Nat := (framesL (l.take j)).length
theorem endF_zero (l : List (List UInt8)) : endF l 0 = 0 := by unfold endF; rw [List.take_zero]; rfl
theorem endF_step (l : List (List UInt8)) (k : Nat) (E : List UInt8) (h : l.take (k + 1) = l.take k ++ [E]) : endF l (k + 1) = endF l k + 8 + E.length := by
  unfold endF; rw [h, framesL_snoc, List.length_append, frameL_len]; omega
def endsV (l : List (List UInt8)) (k : Nat) : List Value := (List.range k).map fun j => Value.int .i64 (endF l (j + 1) : Nat)
theorem endsV_len (l : List (List UInt8)) (k : Nat) : (endsV l k).length = k := by simp [endsV]
theorem endsV_step (l : List (List UInt8)) (k : Nat) : endsV l (k + 1) = endsV l k ++ [.int .i64 (endF l (k + 1) : Nat)] := by
  unfold endsV; rw [List.range_succ, List.map_append]; rfl
theorem endsV_at (l : List (List UInt8)) (k j : Nat) (h : j < k) : (endsV l k)[j]? = some (.int .i64 (endF l (j + 1) : Nat)) := by
  unfold endsV
  rw [List.getElem?_map, List.getElem?_range h]; rfl
theorem endF_le (l : List (List UInt8)) (k : Nat) (h : ∀ b ∈ l.take k, b.length ≤ 1000) : endF l k ≤ 1008 * k := by
  have h1 := framesL_le (l.take k) h
  have h2 : (l.take k).length ≤ k := List.length_take_le _ _
  unfold endF
  have := Nat.mul_le_mul_left 1008 h2
  omega
theorem cut_at (l : List (List UInt8)) (j k : Nat) (hj : j < l.length) (h : ∀ b ∈ l, b.length ≤ 1000) (h1 : endF l j ≤ k) (h2 : k < endF l (j + 1)) : splitL ((framesL l).take k) = (l.take j, endF l j) := by
  have hd : l = l.take j ++ l[j] :: l.drop (j + 1) := by rw [← List.drop_eq_getElem_cons hj, List.take_append_drop]
  have := split_cut (l.take j) l[j] (l.drop (j + 1)) k (fun b hb => by rw [← hd] at hb; exact Nat.le_trans (h b hb) (by decide)) h1 (by rw [← take_step l j hj]; exact h2)
  rw [← hd] at this
  exact this
theorem RdB.take {w : World} {A : Option Addr} {c : Nat} {l : List (List UInt8)} (h : RdB w (.slice A l.length c) l) (j : Nat) (hj : j ≤ l.length) : RdB w (.slice A j c) (l.take j) := by
  obtain ⟨A', c', e, hc, hA⟩ := h
  cases e
  have hl : (l.take j).length = j := by rw [List.length_take]; omega
  refine ⟨A, c, by rw [hl], by rw [hl]; omega, fun k x hk => ?_⟩
  rw [List.getElem?_take] at hk
  split at hk
  · exact hA k x hk
  · cases hk
theorem mem_take_all {l : List (List UInt8)} {n : Nat} (hn : l.length = n) (h : ∀ b ∈ l.take n, b.length ≤ 1000) : ∀ b ∈ l, b.length ≤ 1000 := by
  rw [List.take_of_length_le (by omega)] at h; exact h
theorem Tryd.infoIntF : (Tryd.prog.info? 3).map (fun i => (i.zero, i.size, i.bytes)) = some (some (.int .i64 0), 1, 8) := by kernel_rfl
set_option maxRecDepth 100000 in
set_option maxHeartbeats 4000000 in
theorem frameCuts_at (H : CodeFrame) (A : Option Addr) (c : Nat) (l : List (List UInt8)) (x : Int) {w : World} (hl : RdB w (.slice A l.length c) l) (hx : (Lit.int .u16 x).wf = true) (hr : RoundsIn w) :
    Calls Tryd.prog 5 #[.slice A l.length c, .int .u16 x] w fun e w' => e = .returned (.bool true) ∧ Below w.heap.size w w' := by
  obtain ⟨i0, hi, hz0, hz1, hz2⟩ := info_parts Tryd.infoByte
  obtain ⟨j0, hj, hy0, hy1, hy2⟩ := info_parts Tryd.infoIntF
  obtain ⟨d, rfl, hd⟩ : ∃ d : Nat, x = (d : Int) ∧ d < 65536 := by
    simp [Lit.wf, IntKind.min, IntKind.max, IntKind.signed, IntKind.bits] at hx
    exact ⟨x.toNat, by omega, by omega⟩
  have hans := fun W (hb : Below w.heap.size w W) => answers11_any H W (hr.below hb)
  have HA := Lib.hid hans; clear hans
  obtain ⟨n, hn⟩ : ∃ n, l.length = n := ⟨_, rfl⟩
  by_cases h0 : n = 0
  · rw [hn]
    have d0 : ((n : Int) == 0) = true := by simp [h0]
    clear h0 hn hl hr H hx
    go_enter Tryd.func5, Tryd.ntmps5
    go_wp2_with fail
    refine (HA.out _ (Below.refl _ _)).mono ?_
    rintro e w1 ⟨rfl, hb1⟩
    have B1 := Lib.hid hb1; clear hb1
    dsimp only
    go_wp2
    go_ret
    exact ⟨rfl, B1.out⟩
  have d0 : ((n : Int) == 0) = false := by rw [beq_eq_false_iff_ne]; omega
  by_cases h1 : 30 < n
  · rw [hn]
    have d1 : decide ((30 : Int) < n) = true := by simp; omega
    clear h0 h1 hn hl hr H hx
    go_enter Tryd.func5, Tryd.ntmps5
    go_wp2_with fail
    refine (HA.out _ (Below.refl _ _)).mono ?_
    rintro e w1 ⟨rfl, hb1⟩
    have B1 := Lib.hid hb1; clear hb1
    dsimp only
    go_wp2
    go_ret
    exact ⟨rfl, B1.out⟩
  have h30 : n ≤ 30 := by omega
  have d1 : decide ((30 : Int) < n) = false := by simp; omega
  have hnpos : 0 < n := by omega
  have HRB := Lib.hid hl; have HR := Lib.hid hr; have HH := Lib.hid H; have HN := Lib.hid hn
  rw [hn]
  clear h0 h1 hl hr H hn hx
  go_enter Tryd.func5, Tryd.ntmps5
  go_wp2
  go_loopw [5, 6, 7] (fun bv ev i W => ∃ k : Nat, k ≤ n ∧ i = .int .i64 k ∧ Hid (Buf W w.heap.size bv (framesL (l.take k)) ∧ W.ownsRow w.heap.size 3 1 ev k (endsV l k) ∧ (∀ b ∈ l.take k, b.length ≤ 1000) ∧ Below w.heap.size w W)) (fun _ _ i _ => n - (intOf i).toNat)
  case atStart => exact ⟨0, Nat.zero_le _, rfl, Lib.hid ⟨by rw [List.take_zero, framesL_nil]; exact World.ownsRow_nil _ _ _ _, World.ownsRow_nil _ _ _ _, by simp, Below.refl _ _⟩⟩
  case round =>
    obtain ⟨k, hk, rfl, hT⟩ := hrel
    by_cases hlt : k < n
    · have hkr : decide ((k : Int) < n) = true := by simp; omega
      have hkl : k < l.length := by rw [HN.out]; exact hlt
      obtain ⟨g, o, a1, k1, rfl, hg, hu, hrw⟩ := HRB.out.at k hkl
      have hk0 : (0 : Int) ≤ k := by omega
      have hk1 : (k : Int) < n := by omega
      obtain ⟨E, hE⟩ : ∃ E, l[k] = E := ⟨_, rfl⟩
      have hE2 : l.take (k + 1) = l.take k ++ [E] := by rw [take_step l k hkl, hE]
      rw [hE] at hu hrw
      obtain ⟨n1, hn1⟩ : ∃ n1, E.length = n1 := ⟨_, rfl⟩
      have hbw := hT.out.2.2.2
      have c0 : wr.cell? ⟨g, o + k, none⟩ = some (.slice a1 n1 k1) := by
        rw [← hn1]; exact (World.cell?_of_block (hbw.block g hg)).trans hu
      have c0d : ∀ W, Below w.heap.size w W → W.cell? ⟨g, o + k, none⟩ = some (.slice a1 n1 k1) := fun W hb => by
        rw [← hn1]; exact (World.cell?_of_block (hb.block g hg)).trans hu
      have hrdW : ∀ W, Below w.heap.size w W → RdW W (.slice a1 E.length k1) E := fun W hb => hrw.below hb
      have HRW := Lib.hid hrdW; have HE := Lib.hid hE2; have HN1 := Lib.hid hn1; have C0 := Lib.hid c0d; have BW := Lib.hid hbw
      clear hrdW hu hrw hE hE2 hn1 hkl hg c0d hbw
      by_cases h1000 : 1000 < n1
      · have d3 : decide ((1000 : Int) < n1) = true := by simp; omega
        go_wp2_with fail
        refine (HA.out _ BW.out).mono ?_
        rintro e w1 ⟨rfl, hb1⟩
        have B1 := Lib.hid (BW.out.chain hb1); clear hb1
        dsimp only
        go_wp2
        go_ret
        exact ⟨rfl, B1.out⟩
      · have d3 : decide ((1000 : Int) < n1) = false := by simp; omega
        have hrf := refFrame_any a1 k1 E (by have := HN1.out; omega) wr (HRW.out wr BW.out)
        rw [HN1.out] at hrf
        have RF := Lib.hid hrf; clear hrf
        go_wp2_with fail
        refine RF.out.mono ?_
        rintro e w2 ⟨⟨v2, rfl, hr2⟩, hb2⟩
        have hrd2 := hr2.rd
        obtain ⟨A2, c2, rfl⟩ := own_form hr2
        have hfl : (frameL E).length = 8 + n1 := by rw [frameL_len, HN1.out]
        have hnw : ∀ W, Below w2.heap.size w2 W → (A2 = none ∧ 8 + n1 = 0 ∧ c2 = 0) ∨ ∃ ad, A2 = some ad ∧ ∀ j u, (cells (frameL E))[j]? = some u → W.cell? (ad.add j) = some u := fun W hb => by
          obtain ⟨A1, c1, e1, hA1⟩ := (hrd2.below hb).news
          rw [hfl] at e1 hA1
          cases e1
          exact hA1
        have hcl : (cells (frameL E)).length = (8 + n1) * 1 := by rw [Nat.mul_one, ← hfl]; simp [cells]
        have hbuf := own_below hT.out.1 hb2
        have hends := own_below hT.out.2.1 hb2
        have hb3 : Below w.heap.size w w2 := BW.out.chain hb2
        have hpl := endF_le l k hT.out.2.2.1
        have hstep := endF_step l k E HE.out
        rw [HN1.out] at hstep
        rw [hfl]
        have NW := Lib.hid hnw; have CL := Lib.hid hcl; have BUF := Lib.hid hbuf; have ENDS := Lib.hid hends; have B3 := Lib.hid hb3; have HPL := Lib.hid hpl; have STEP := Lib.hid hstep; have HFL := Lib.hid hfl
        clear hnw hcl hbuf hends hb2 hb3 hpl hrd2 hr2 hstep hfl
        dsimp only
        go_wp2_with (at_builtin; refine wpList_append_opt rfl _ _ 23 rfl w.heap.size 5 i0 _ 1 1 Tryd.underlying23 hi hz0 hz1 hz2 rfl (by decide) _ _ _ rfl BUF.out A2 (8 + n1) c2 (cells (frameL E)) rfl CL.out (NW.out _ (Below.refl _ _)) (cells_one _) (by have := HPL.out; unfold endF at this; unfold maxLen; omega) (by have := HPL.out; unfold endF at this; omega) B3.out.size ?_)
        intro v4 w4 hown4 hg4 hat4
        have hb4 := B3.out.grown hg4 B3.out.size (fun j hj => (BUF.out.lt j hj).1)
        have hends4 : w4.ownsRow w.heap.size 3 1 u6 k (endsV l k) := own_other ENDS.out BUF.out (by decide) hg4
        obtain ⟨A4, c4, rfl⟩ := own_form hown4
        have hlen4 : (framesL (l.take k)).length + (8 + n1) = endF l (k + 1) := by rw [STEP.out]; unfold endF; omega
        rw [hlen4] at hown4 ⊢
        obtain ⟨F1, hF1⟩ : ∃ F1, endF l (k + 1) = F1 := ⟨_, rfl⟩
        rw [hF1] at hown4 ⊢
        have B4 := Lib.hid hb4; have ENDS4 := Lib.hid hends4; have OWN4 := Lib.hid hown4; have HF1 := Lib.hid hF1
        clear hb4 hends4 hown4 hg4 hat4 hlen4 hF1
        have hF1b : F1 ≤ 1000000 := by have := HPL.out; have := STEP.out; have := HF1.out; omega
        go_wp2_with (at_builtin; refine wpList_append_own _ rfl (.tmp 42) (.tmp 45) 32 rfl w.heap.size 3 j0 _ 1 8 Tryd.underlying32 hj hy0 hy1 hy2 rfl (by decide) _ _ _ rfl (World.ownsRow.alloc ENDS4.out _) ⟨_, 0, none⟩ 1 1 [.int .i64 F1] rfl rfl (new_cells _ #[_] _) (by intro u hu; simp at hu; subst hu; rfl) (by unfold maxLen; omega) (by omega) (by have := B4.out.size; simp; omega) ?_)
        intro v5 w5 hown5 hg5 _
        have hb5 := (B4.out.alloc B4.out.size (.cells #[.int .i64 F1] 3)).grown hg5 (by have := B4.out.size; simp; omega) (fun j hj => (ENDS4.out.lt j hj).1)
        have hbuf5 : w5.ownsRow w.heap.size 5 1 (.slice A4 F1 c4) F1 (cells (framesL (l.take k)) ++ cells (frameL E)) := own_other (World.ownsRow.alloc OWN4.out _) (World.ownsRow.alloc ENDS4.out _) (by decide) hg5
        go_wp2
        go_roundw
        case rel =>
          refine ⟨k + 1, by omega, by go_num, Lib.hid ⟨?_, ?_, all_step2 hT.out.2.2.1 HE.out (by rw [HN1.out]; omega), hb5⟩⟩
          · rw [HE.out, framesL_snoc]
            exact Buf.cut hbuf5 (by rw [List.length_append, frameL_len, HN1.out, ← HF1.out, STEP.out]; unfold endF; omega) (by rw [cells_app])
          · rw [endsV_step, HF1.out]
            exact hown5
        case measure => simp [intOf]; omega
    · obtain rfl : k = n := by omega
      have hkr : decide ((k : Int) < k) = false := by simp
      have htk : l.take k = l := List.take_of_length_le (by rw [HN.out]; exact Nat.le_refl _)
      have hT2 := hT.out
      have hall := mem_take_all HN.out hT2.2.2.1
      have hbuf := hT2.1
      rw [htk] at hbuf
      obtain ⟨L, hL⟩ : ∃ L, (framesL l).length = L := ⟨_, rfl⟩
      have hLe : endF l k = L := by unfold endF; rw [htk, hL]
      have hLb : L ≤ 1008 * k := by rw [← hLe]; exact endF_le l k hT2.2.2.1
      have hL8 : 8 ≤ L := by
        have h1 := frameL_len (l[0]'(by have := HN.out; omega))
        have h2 : framesL l = frameL (l[0]'(by have := HN.out; omega)) ++ framesL (l.drop 1) := by
          rw [← framesL_cons]
          congr 1
          have := List.drop_eq_getElem_cons (l := l) (i := 0) (by have := HN.out; omega)
          rwa [List.drop_zero] at this
        rw [← hL, h2, List.length_append, h1]; omega
      obtain ⟨Ab, cb, rfl⟩ := own_form hbuf
      have hrd := hbuf.rd
      obtain ⟨Ae, ce, rfl⟩ := own_form hT2.2.1
      have hcb : L ≤ cb := by
        obtain ⟨A1, c1, e1, hc1, _⟩ := hrd
        injection e1 with _ _ e3
        omega
      have hends : ∃ ge, Ae = some ⟨ge, 0, none⟩ ∧ ∀ j, j < k → wr.cell? ⟨ge, j, none⟩ = some (.int .i64 (endF l (j + 1) : Nat)) := by
        rcases hT2.2.1.2 with ⟨_, h0⟩ | ⟨ge, cap, cur, hv, _⟩
        · omega
        · injection hv with e1 _ _
          refine ⟨ge, e1, fun j hj => ?_⟩
          subst e1
          have := World.ownsRow.cells (g := ge) hT2.2.1 rfl j _ (endsV_at l k j hj)
          rwa [Addr.add_lit, Nat.zero_add] at this
      obtain ⟨ge, rfl, hge⟩ := hends
      rw [hL] at hrd ⊢
      obtain ⟨i, hi0⟩ : ∃ i, d % L = i := ⟨_, rfl⟩
      have hiL : i < L := by rw [← hi0]; exact Nat.mod_lt _ (by omega)
      have hmod : (d : Int) % (L : Int) = (i : Int) := by exact_mod_cast hi0
      have htm : (d : Int).tmod (L : Int) = (i : Int) := by rw [Int.tmod_eq_emod_of_nonneg (by omega)]; exact hmod
      have hLne : ¬ L = 0 := by omega
      have hkc := HRB.out.cap
      rw [HN.out] at hkc
      have RD := Lib.hid hrd; have GE := Lib.hid hge; have ALL := Lib.hid hall; have LE := Lib.hid hLe; have HL := Lib.hid hL; have BW := Lib.hid hT2.2.2.2
      have hbig : endF l k ≤ 1000000 := by rw [hLe]; omega
      have hmono : ∀ j, j ≤ k → endF l j ≤ 1000000 := fun j hj => Nat.le_trans (endF_le l j (fun b hb => hall b (List.mem_of_mem_take hb))) (by omega)
      have MONO := Lib.hid hmono
      clear hT hT2 hbuf hrd hge hall hLe hL hbig hmono htk
      go_upto_region 14 with fail
      go_loopw [9, 10] (fun nv ev W => ∃ j : Nat, j ≤ k ∧ nv = .int .i64 j ∧ ev = .int .i64 (endF l j : Nat) ∧ Hid (endF l j ≤ i ∧ wr = W)) (fun nv _ _ => k - (intOf nv).toNat)
      case atStart => exact ⟨0, Nat.zero_le _, rfl, by rw [endF_zero]; rfl, Lib.hid ⟨by rw [endF_zero]; omega, rfl⟩⟩
      case round =>
        obtain ⟨j, hj, rfl, rfl, hle⟩ := hrel
        obtain ⟨hle2, rfl⟩ := hle.out
        clear hle
        by_cases hjk : j < k
        · have hjr : decide ((j : Int) < k) = true := by simp; omega
          have hj0 : (0 : Int) ≤ j := by omega
          have hj1 : (j : Int) < k := by omega
          have c1 := GE.out j hjk
          obtain ⟨F, hF⟩ : ∃ F, endF l (j + 1) = F := ⟨_, rfl⟩
          obtain ⟨F0, hF0⟩ : ∃ F0, endF l j = F0 := ⟨_, rfl⟩
          rw [hF] at c1
          have HF := Lib.hid hF; have HF0 := Lib.hid hF0
          rw [hF0] at hle2 ⊢
          clear hF hF0
          by_cases hFi : F ≤ i
          · have hd1 : decide ((F : Int) ≤ i) = true := by simp; omega
            go_wp2
            go_roundw
            case rel => exact ⟨j + 1, by omega, by go_num, by rw [HF.out], Lib.hid ⟨by rw [HF.out]; exact hFi, by trivial⟩⟩
            case measure => simp [intOf]; omega
          · have hd1 : decide ((F : Int) ≤ i) = false := by simp; omega
            have hcut := cut_at l j i (by rw [HN.out]; exact hjk) ALL.out (by rw [HF0.out]; exact hle2) (by rw [HF.out]; omega)
            rw [HF0.out] at hcut
            have htl : ((framesL l).take i).length = i := by rw [List.length_take, HL.out]; omega
            have hrt := RD.out.weak
            rw [← HL.out] at hrt
            have hrt2 := hrt.take i (by rw [HL.out]; omega)
            have hsp := HH.out.split wr Ab cb ((framesL l).take i) (by rw [htl]; omega) (HR.out.below BW.out) (by rw [htl]; exact hrt2)
            rw [hcut, htl] at hsp
            have hlt := (HRB.out.below BW.out).take j (by rw [HN.out]; omega)
            have htj : (l.take j).length ≤ 1000000 := Nat.le_trans (List.length_take_le _ _) (by omega)
            have SP := Lib.hid hsp; have LT := Lib.hid hlt; have TJ := Lib.hid htj
            have hi0' : (0 : Int) ≤ i := by omega
            have hi1' : (i : Int) ≤ cb := by omega
            have hj2 : (j : Int) ≤ c := by omega
            clear hcut htl hrt hrt2 hsp hlt htj
            go_wp2_with fail
            refine SP.out.mono ?_
            rintro e w2 ⟨⟨v2, rfl, hr2⟩, hb2⟩
            have R2 := Lib.hid hr2; have G2 := Lib.hid hb2; have B2 := Lib.hid (BW.out.chain hb2); clear hr2 hb2
            dsimp only
            go_wp2_with fail
            refine (HA.out _ B2.out).mono ?_
            rintro e w3 ⟨rfl, hb3⟩
            have hsm := same_any v2 (.slice A j c) (l.take j) (l.take j) TJ.out TJ.out w3 (R2.out.below hb3) (LT.out.below (G2.out.chain hb3))
            rw [show decide (l.take j = l.take j) = true by simp] at hsm
            have SM := Lib.hid hsm; have B3 := Lib.hid (B2.out.chain hb3); clear hsm hb3
            have hff : ((F0 : Int) == F0) = true := by simp
            dsimp only
            go_wp2_with fail
            refine SM.out.mono ?_
            rintro e w4 ⟨rfl, hb4⟩
            have B4 := Lib.hid (B3.out.chain hb4); clear hb4
            dsimp only
            go_wp2
            go_ret
            exact ⟨ret_bool (by simp), B4.out⟩
        · exfalso
          obtain rfl : j = k := by omega
          have := LE.out
          omega
end Go.Proofs.YtdflghphjhejdaaDoor
