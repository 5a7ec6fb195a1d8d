/- Texts merged by program, in build order: RecRef, StoreWrite, StoreWriteR. -/
import Derived.Test.YtklhdffbaglkdaaDoorG09
import Derived.Test.YtklhdffbaglkdaaDoorG05
import Derived.Test.YtklhdffbaglkdaaDoorG08
import Derived.Test.YtklhdffbaglkdaaDoorG10
namespace Go.Proofs.YtklhdffbaglkdaaDoor
open Go.RowKit
set_option linter.unusedVariables false
set_option linter.unusedSimpArgs false

def recP (l : List Ch) (k : Nat) : List UInt8 := four l.length ++ recAll (l.take k)
theorem recP_zero (l : List Ch) : recP l 0 = four l.length := by unfold recP; rw [List.take_zero]; simp [recAll]
theorem recP_all (l : List Ch) (k : Nat) (h : l.length ≤ k) : recP l k = recL l := by unfold recP recL; rw [List.take_of_length_le h]
theorem recP_step (l : List Ch) (k : Nat) (x : Ch) (h : l.take (k + 1) = l.take k ++ [x]) : recP l (k + 1) = recP l k ++ four (if x.gone = true then 1 else 0) ++ four x.key.length ++ x.key ++ four x.val.length ++ x.val := by
  unfold recP
  rw [h, recAll_snoc]
  unfold recOne
  simp only [List.append_assoc]
theorem recP_le (l : List Ch) (k : Nat) : (recP l k).length ≤ (recL l).length := by
  have h : recAll l = recAll (l.take k) ++ recAll (l.drop k) := by
    unfold recAll
    rw [← List.flatten_append, ← List.map_append, List.take_append_drop]
  unfold recP recL
  simp only [List.length_append]
  rw [h, List.length_append]
  omega
theorem own_drewN {w : World} {B s n : Nat} {e : TypeId} {v : Value} {xs : List Value} (h : w.ownsRow B e s v n xs) (m : Nat) : (w.drewN m).ownsRow B e s v n xs := h
theorem fourv_cells (n : Nat) : (cells (four n)).length = 4 * 1 := rfl
theorem four_newsR {w : World} {B g n : Nat} (h : Buf w B (.slice (some ⟨g, 0, none⟩) 4 4) (four n)) : ((some ⟨g, 0, none⟩ : Option Addr) = none ∧ 4 = 0 ∧ 4 = 0) ∨ ∃ ad, (some ⟨g, 0, none⟩ : Option Addr) = some ad ∧ ∀ j u, (cells (four n))[j]? = some u → w.cell? (ad.add j) = some u :=
  .inr ⟨_, rfl, World.ownsRow.cells (g := g) h rfl⟩
set_option maxRecDepth 100000 in
set_option maxHeartbeats 8000000 in
theorem refRecord_any (A : Option Addr) (c : Nat) (l : List Ch) (hl : (recL l).length ≤ 100000000) (w : World) (h : RdC w (.slice A l.length c) l) :
    Calls Tryd.prog 39 #[.slice A l.length c] w fun e w' => (∃ v, e = .returned v ∧ Buf w' w.heap.size v (recL l)) ∧ Below w.heap.size w w' := by
  obtain ⟨i0, hi, hz0, hz1, hz2⟩ := info_parts Tryd.infoByte
  obtain ⟨n, hn⟩ : ∃ n, l.length = n := ⟨_, rfl⟩
  have hnl : n ≤ 100000000 := by
    have h1 := recAll_len l
    rw [recL_len] at hl
    omega
  have hall : ∀ k, (recP l k).length ≤ 100000000 := fun k => Nat.le_trans (recP_le l k) hl
  have hstart := refFour_any n (by omega) w
  have HRC := Lib.hid h; have HN := Lib.hid hn; have ALL := Lib.hid hall; have ST := Lib.hid hstart
  rw [hn]
  clear h hn hall hl hstart
  go_enter Tryd.func39, Tryd.ntmps39
  go_wp2_with fail
  refine ST.out.mono ?_
  rintro e w1 ⟨⟨rfl, hB1⟩, hb1⟩
  have BUF1 := Lib.hid hB1; have B1 := Lib.hid hb1; clear hB1 hb1
  dsimp only
  go_wp2_with fail
  go_loopw [3, 4] (fun v i W => ∃ k : Nat, k ≤ n ∧ i = .int .i64 k ∧ Hid (Buf W w.heap.size v (recP l k) ∧ Below w.heap.size w W)) (fun _ i _ => n - (intOf i).toNat)
  case atStart => exact ⟨0, Nat.zero_le _, rfl, Lib.hid ⟨by rw [recP_zero, HN.out]; exact BUF1.out, B1.out⟩⟩
  case round =>
    obtain ⟨k, hk, rfl, hT⟩ := hrel
    by_cases hlt : k < n
    · have hkr : decide ((k : Int) < n) = true := by simp; omega
      have hkl : k < l.length := by rw [HN.out]; exact hlt
      have hk0 : (0 : Int) ≤ k := by omega
      have hk1 : (k : Int) < n := by omega
      obtain ⟨g, o, rfl, hg, -, -, -⟩ := HRC.out.at k hkl
      obtain ⟨x, hx⟩ : ∃ x, l[k] = x := ⟨_, rfl⟩
      have htk : l.take (k + 1) = l.take k ++ [x] := by rw [List.take_succ_eq_append_getElem hkl, hx]
      have hstep := recP_step l k x htk
      obtain ⟨K1, hK1⟩ : ∃ X : ByteArray, X = ⟨x.key.toArray⟩ := ⟨_, rfl⟩
      obtain ⟨V1, hV1⟩ : ∃ X : ByteArray, X = ⟨x.value.toArray⟩ := ⟨_, rfl⟩
      have hcl : ∀ W, Below w.heap.size w W → W.cell? ⟨g, o + k * 3, none⟩ = some (.string K1) ∧ W.cell? ⟨g, o + k * 3 + 1, none⟩ = some (.string V1) ∧ W.cell? ⟨g, o + k * 3 + 2, none⟩ = some (.bool x.gone) := fun W hb => by
        obtain ⟨g', o', e, _, h1, h2, h3⟩ := (HRC.out.below hb).at k hkl
        injection e with e; injection e with e1 e2
        subst e1; subst e2
        rw [hx] at h1 h2 h3
        rw [hK1, hV1]
        exact ⟨h1, h2, h3⟩
      obtain ⟨kl, hkl2⟩ : ∃ n, x.key.length = n := ⟨_, rfl⟩
      obtain ⟨vl, hvl⟩ : ∃ n, x.val.length = n := ⟨_, rfl⟩
      obtain ⟨pl, hpl⟩ : ∃ n, (recP l k).length = n := ⟨_, rfl⟩
      have htot := ALL.out (k + 1)
      rw [hstep] at htot
      simp only [List.length_append, four_len] at htot
      rw [hkl2, hvl, hpl] at htot
      have hKs : K1.size = kl := by rw [hK1, ← hkl2]; show x.key.toArray.size = _; simp
      have hck : Lib.strCells K1 = cells x.key := by rw [hK1]; unfold Lib.strCells cells; simp
      rw [hkl2, hvl] at hstep
      have fk : ∀ W, Calls Tryd.prog 63 #[.int .i64 K1.size] W fun e w' => (e = .returned (.slice (some ⟨W.heap.size, 0, none⟩) 4 4) ∧ Buf w' W.heap.size (.slice (some ⟨W.heap.size, 0, none⟩) 4 4) (four kl)) ∧ Below W.heap.size W w' := fun W => by
        have := refFour_any K1.size (by omega) W
        rw [hKs] at this ⊢; exact this
      have hown := hT.out.1
      unfold Buf at hown
      rw [hpl] at hown
      obtain ⟨c1, c2, c3⟩ := hcl wr hT.out.2
      have hcK : ∀ W, Below w.heap.size w W → W.cell? ⟨g, o + k * 3, none⟩ = some (.string K1) := fun W hb => (hcl W hb).1
      have FK := Lib.hid fk; have OWN := Lib.hid hown; have SZ := Lib.hid htot; have STEP := Lib.hid hstep; have KS := Lib.hid hKs; have CK1 := Lib.hid hck; have CK := Lib.hid hcK; have KL := Lib.hid hkl2; have VLL := Lib.hid hvl; have PL := Lib.hid hpl; have BW := Lib.hid hT.out.2; have HV1 := Lib.hid hV1
      have hvlt : vl < 2147483648 := by omega
      clear hV1 fk hown htot hstep hKs hck hcK hkl2 hvl hpl hcl hK1 htk hx hkl hg hT
      cases hG : x.gone with
      | true =>
        have hval : x.val = [] := by unfold Ch.val; rw [hG]; rfl
        have hvl0 : (⟨#[]⟩ : ByteArray).size = vl := by rw [← VLL.out, hval]; rfl
        have hcv : Lib.strCells (⟨#[]⟩ : ByteArray) = cells x.val := by rw [hval]; rfl
        have fg : ∀ W, Calls Tryd.prog 63 #[.int .i64 1] W fun e w' => (e = .returned (.slice (some ⟨W.heap.size, 0, none⟩) 4 4) ∧ Buf w' W.heap.size (.slice (some ⟨W.heap.size, 0, none⟩) 4 4) (four 1)) ∧ Below W.heap.size W w' := fun W => refFour_any 1 (by omega) W
        have hstep := STEP.out
        rw [hG, if_pos rfl] at hstep
        have STEP := Lib.hid hstep
        rw [hG] at c3
        have FG := Lib.hid fg; have VL := Lib.hid hvl0; have CV1 := Lib.hid hcv; have HG := Lib.hid hG
        have hvl1 : 0 = vl := hvl0
        have fv : ∀ W, Calls Tryd.prog 63 #[.int .i64 0] W fun e w' => (e = .returned (.slice (some ⟨W.heap.size, 0, none⟩) 4 4) ∧ Buf w' W.heap.size (.slice (some ⟨W.heap.size, 0, none⟩) 4 4) (four vl)) ∧ Below W.heap.size W w' := fun W => by
          have := refFour_any 0 (by omega) W
          rw [← hvl1]; exact this
        have FV := Lib.hid fv
        have VL0 := Lib.hid hvl1
        clear fg fv hvl0 hcv hval hG hstep hvl1
        go_upto_region 5 with fail
        go_quiet (fail)
        go_upto_region 8 with fail
        have BWQ := Lib.hid ((belowDrewN BW.out nq).drew)
        refine wp_region_held_drew (S := (fun W => W.cell? ⟨g, o + k * 3, none⟩ = some (.string K1))) (by kernel_rfl) (CK.out _ BWQ.out) (fun hHeld => ?_)
        refine wpAnyH_take (i := 0) (oi := _) (v := ?v1) (by simp only [List.getElem?_toArray, List.getElem?_cons_succ, List.getElem?_cons_zero]; rfl) (by kernel_rfl) (by kernel_rfl) (by kernel_rfl) (by exact fun _ _ _ h => h) (Or.inl ⟨by rfl, ?hy1⟩) (by assumption) ?rest1
        case hy1 => (intro w hSw; (try dsimp only at hSw); go_simp; try with_reducible rfl)
        try simp only [Act.put, List.setIfInBounds_toArray, List.set_cons_zero, List.set_cons_succ]
        refine wpAnyH_take (i := 1) (oi := _) (v := ?v2) (by simp only [List.getElem?_toArray, List.getElem?_cons_succ, List.getElem?_cons_zero]; rfl) (by kernel_rfl) (by kernel_rfl) (by kernel_rfl) (by exact fun _ _ _ h => h) (Or.inl ⟨by rfl, ?hy2⟩) (by assumption) ?rest2
        case hy2 => (intro w hSw; (try dsimp only at hSw); go_simp; try with_reducible rfl)
        try simp only [Act.put, List.setIfInBounds_toArray, List.set_cons_zero, List.set_cons_succ]
        refine wpAnyH_take (i := 4) (oi := _) (v := ?v3) (by simp only [List.getElem?_toArray, List.getElem?_cons_succ, List.getElem?_cons_zero]; rfl) (by kernel_rfl) (by kernel_rfl) (by kernel_rfl) (by exact fun _ _ _ h => h) (Or.inl ⟨by rfl, ?hy3⟩) (by assumption) ?rest3
        case hy3 => (intro w hSw; (try dsimp only at hSw); go_simp; try with_reducible rfl)
        try simp only [Act.put, List.setIfInBounds_toArray, List.set_cons_zero, List.set_cons_succ]
        refine wpAnyH_take (i := 5) (oi := _) (v := ?v4) (by simp only [List.getElem?_toArray, List.getElem?_cons_succ, List.getElem?_cons_zero]; rfl) (by kernel_rfl) (by kernel_rfl) (by kernel_rfl) (by exact fun _ _ _ h => h) (Or.inl ⟨by rfl, ?hy4⟩) (by assumption) ?rest4
        case hy4 => (intro w hSw; (try dsimp only at hSw); go_simp; try with_reducible rfl)
        try simp only [Act.put, List.setIfInBounds_toArray, List.set_cons_zero, List.set_cons_succ]
        refine wpAnyH_take (i := 6) (oi := _) (v := ?v5) (by simp only [List.getElem?_toArray, List.getElem?_cons_succ, List.getElem?_cons_zero]; rfl) (by kernel_rfl) (by kernel_rfl) (by kernel_rfl) (by exact fun _ _ _ h => h) (Or.inl ⟨by rfl, ?hy5⟩) (by assumption) ?rest5
        case hy5 => (intro w hSw; (try dsimp only at hSw); go_simp; try with_reducible rfl)
        try simp only [Act.put, List.setIfInBounds_toArray, List.set_cons_zero, List.set_cons_succ]
        refine wpAnyH_take (i := 7) (oi := _) (v := ?v6) (by simp only [List.getElem?_toArray, List.getElem?_cons_succ, List.getElem?_cons_zero]; rfl) (by kernel_rfl) (by kernel_rfl) (by kernel_rfl) (by exact fun _ _ _ h => h) (Or.inl ⟨by rfl, ?hy6⟩) (by assumption) ?rest6
        case hy6 => (intro w hSw; (try dsimp only at hSw); go_simp; try with_reducible rfl)
        try simp only [Act.put, List.setIfInBounds_toArray, List.set_cons_zero, List.set_cons_succ]
        refine wpAnyH_take (i := 8) (oi := _) (v := ?v7) (by simp only [List.getElem?_toArray, List.getElem?_cons_succ, List.getElem?_cons_zero]; rfl) (by kernel_rfl) (by kernel_rfl) (by kernel_rfl) (by exact fun _ _ _ h => h) (Or.inl ⟨by rfl, ?hy7⟩) (by assumption) ?rest7
        case hy7 => (intro w hSw; (try dsimp only at hSw); go_simp; try with_reducible rfl)
        try simp only [Act.put, List.setIfInBounds_toArray, List.set_cons_zero, List.set_cons_succ]
        refine wpAnyH_take (i := 9) (oi := _) (v := ?v8) (by simp only [List.getElem?_toArray, List.getElem?_cons_succ, List.getElem?_cons_zero]; rfl) (by kernel_rfl) (by kernel_rfl) (by kernel_rfl) (by exact fun _ _ _ h => h) (Or.inl ⟨by rfl, ?hy8⟩) (by assumption) ?rest8
        case hy8 => (intro w hSw; (try dsimp only at hSw); go_simp; try with_reducible rfl)
        try simp only [Act.put, List.setIfInBounds_toArray, List.set_cons_zero, List.set_cons_succ]
        refine wpAnyH_ready (rs := [2]) (by kernel_rfl) (by simp) ?_
        refine AllReadyH.cons (o := _) (by simp only [List.getElem?_toArray, List.getElem?_cons_succ, List.getElem?_cons_zero]; rfl) (fun K hK => ?_) AllReadyH.nil
        go_simp
        go_at_call 63
        (with_reducible refine (FG.out _).mono ?_)
        rintro e w2 ⟨⟨rfl, hB2⟩, hb2⟩
        have B2 := Lib.hid (BWQ.out.chain hb2)
        have O2 := Lib.hid (own_below (own_drewN OWN.out _) hb2)
        have N2 := Lib.hid (four_newsR hB2)
        clear hb2 hB2
        dsimp only
        refine hK.out _ _ (CK.out _ B2.out) (fun hHeld => ?_)
        clear hK K
        try simp only [Act.put, List.setIfInBounds_toArray, List.set_cons_zero, List.set_cons_succ]
        refine wpAnyH_ready (rs := [3]) (by kernel_rfl) (by simp) ?_
        refine AllReadyH.cons (o := _) (by simp only [List.getElem?_toArray, List.getElem?_cons_succ, List.getElem?_cons_zero]; rfl) (fun K hK => ?_) AllReadyH.nil
        refine step_append_opt rfl (.tmp 26) (.tmp 28) 40 rfl w.heap.size 5 i0 _ 1 1 Tryd.underlying40 hi hz0 hz1 hz2 rfl (by decide) _ _ _ rfl O2.out _ 4 4 (cells (four 1)) rfl (fourv_cells _) N2.out (cells_one _) (by have := SZ.out; unfold maxLen; omega) (by have := SZ.out; omega) B2.out.size ?_
        intro v3 w3 hown3 hg3 _
        have B3 := Lib.hid (B2.out.grown hg3 B2.out.size (fun j hj => (O2.out.lt j hj).1))
        have O3 := Lib.hid hown3
        clear hown3 hg3
        refine hK.out _ _ (CK.out _ B3.out) (fun hHeld => ?_)
        clear hK K
        try simp only [Act.put, List.setIfInBounds_toArray, List.set_cons_zero, List.set_cons_succ]
        refine wpAnyH_ready (rs := [10]) (by kernel_rfl) (by simp) ?_
        refine AllReadyH.cons (o := _) (by simp only [List.getElem?_toArray, List.getElem?_cons_succ, List.getElem?_cons_zero]; rfl) (fun K hK => ?_) AllReadyH.nil
        go_simp
        go_at_call 63
        (with_reducible refine (FK.out _).mono ?_)
        rintro e w4 ⟨⟨rfl, hB4⟩, hb4⟩
        have B4 := Lib.hid (B3.out.chain hb4)
        have O4 := Lib.hid (own_below O3.out hb4)
        have N4 := Lib.hid (four_newsR hB4)
        clear hb4 hB4
        dsimp only
        refine hK.out _ _ (CK.out _ B4.out) (fun hHeld => ?_)
        clear hK K
        try simp only [Act.put, List.setIfInBounds_toArray, List.set_cons_zero, List.set_cons_succ]
        refine wpAnyH_ready (rs := [11]) (by kernel_rfl) (by simp) ?_
        refine AllReadyH.cons (o := _) (by simp only [List.getElem?_toArray, List.getElem?_cons_succ, List.getElem?_cons_zero]; rfl) (fun K hK => ?_) AllReadyH.nil
        refine step_append_opt rfl (.tmp 29) (.tmp 36) 40 rfl w.heap.size 5 i0 _ 1 1 Tryd.underlying40 hi hz0 hz1 hz2 rfl (by decide) _ _ _ rfl O4.out _ 4 4 (cells (four kl)) rfl (fourv_cells _) N4.out (cells_one _) (by have := SZ.out; unfold maxLen; omega) (by have := SZ.out; omega) B4.out.size ?_
        intro v5 w5 hown5 hg5 _
        have B5 := Lib.hid (B4.out.grown hg5 B4.out.size (fun j hj => (O4.out.lt j hj).1))
        have O5 := Lib.hid hown5
        clear hown5 hg5
        refine hK.out _ _ (CK.out _ B5.out) (fun hHeld => ?_)
        clear hK K
        try simp only [Act.put, List.setIfInBounds_toArray, List.set_cons_zero, List.set_cons_succ]
        refine wpAnyH_take (i := 12) (oi := _) (v := ?v13) (by simp only [List.getElem?_toArray, List.getElem?_cons_succ, List.getElem?_cons_zero]; rfl) (by kernel_rfl) (by kernel_rfl) (by kernel_rfl) (by exact fun _ _ _ h => h) (Or.inl ⟨by rfl, ?hy13⟩) (by assumption) ?rest13
        case hy13 => (intro w hSw; (try dsimp only at hSw); go_simp; try with_reducible rfl)
        try simp only [Act.put, List.setIfInBounds_toArray, List.set_cons_zero, List.set_cons_succ]
        refine wpAnyH_done (by kernel_rfl) ?_ _
        have c5k := CK.out _ B5.out
        go_wp2_with (at_builtin; refine Lib.wpList_append_own_string _ rfl _ _ 40 9 rfl w.heap.size 5 i0 Tryd.underlying40 Tryd.underlying9 hi hz0 hz1 hz2 _ _ _ rfl O5.out K1 rfl (by have := SZ.out; have := KS.out; unfold maxLen; omega) (by have := SZ.out; have := KS.out; omega) B5.out.size ?_)
        intro v6 w6 hown6 hg6 _
        have B6 := Lib.hid (B5.out.grown hg6 B5.out.size (fun j hj => (O5.out.lt j hj).1))
        have O6 := Lib.hid hown6
        clear hown6 hg6 c5k
        go_wp2_with fail
        refine (FV.out _).mono ?_
        rintro e w7 ⟨⟨rfl, hB7⟩, hb7⟩
        have B7 := Lib.hid (B6.out.chain hb7)
        have O7 := Lib.hid (own_below O6.out hb7)
        have N7 := Lib.hid (four_newsR hB7)
        clear hb7 hB7
        dsimp only
        go_wp2_with (at_builtin; refine wpList_append_opt rfl _ _ 40 rfl w.heap.size 5 i0 _ 1 1 Tryd.underlying40 hi hz0 hz1 hz2 rfl (by decide) _ _ _ rfl O7.out _ 4 4 (cells (four vl)) rfl (fourv_cells _) N7.out (cells_one _) (by have := SZ.out; have := KS.out; unfold maxLen; omega) (by have := SZ.out; have := KS.out; omega) B7.out.size ?_)
        intro v8 w8 hown8 hg8 _
        have B8 := Lib.hid (B7.out.grown hg8 B7.out.size (fun j hj => (O7.out.lt j hj).1))
        have O8 := Lib.hid hown8
        clear hown8 hg8
        go_wp2_with (at_builtin; refine Lib.wpList_append_own_string _ rfl _ _ 40 9 rfl w.heap.size 5 i0 Tryd.underlying40 Tryd.underlying9 hi hz0 hz1 hz2 _ _ _ rfl O8.out ⟨#[]⟩ rfl (by have := SZ.out; have := KS.out; have := VL.out; unfold maxLen; omega) (by have := SZ.out; have := KS.out; have := VL.out; omega) B8.out.size ?_)
        intro v9 w9 hown9 hg9 _
        have B9 := Lib.hid (B8.out.grown hg9 B8.out.size (fun j hj => (O8.out.lt j hj).1))
        have O9 := Lib.hid hown9
        clear hown9 hg9
        go_wp2
        go_roundw
        case rel =>
          refine ⟨k + 1, by omega, by go_num, Lib.hid ⟨?_, B9.out⟩⟩
          rw [STEP.out]
          refine Buf.cut O9.out ?_ ?_
          · have := KS.out; have := VL.out; have h00 : (⟨#[]⟩ : ByteArray).size = 0 := rfl
            simp only [List.length_append, four_len]
            rw [KL.out, VLL.out, PL.out]
            omega
          · simp only [cells_app]
            rw [CK1.out, CV1.out]
            simp only [List.append_assoc]
        case measure => simp [intOf]; omega
      | false =>
        have hval : x.val = x.value := by unfold Ch.val; rw [hG]; rfl
        have hvl0 : V1.size = vl := by rw [← VLL.out, hval, HV1.out]; show x.value.toArray.size = _; simp
        have hcv : Lib.strCells V1 = cells x.val := by rw [hval, HV1.out]; unfold Lib.strCells cells; simp
        have fg : ∀ W, Calls Tryd.prog 63 #[.int .i64 0] W fun e w' => (e = .returned (.slice (some ⟨W.heap.size, 0, none⟩) 4 4) ∧ Buf w' W.heap.size (.slice (some ⟨W.heap.size, 0, none⟩) 4 4) (four 0)) ∧ Below W.heap.size W w' := fun W => refFour_any 0 (by omega) W
        have hstep := STEP.out
        rw [hG, if_neg (by decide)] at hstep
        have STEP := Lib.hid hstep
        rw [hG] at c3
        have FG := Lib.hid fg; have VL := Lib.hid hvl0; have CV1 := Lib.hid hcv; have HG := Lib.hid hG
        have fv : ∀ W, Calls Tryd.prog 63 #[.int .i64 V1.size] W fun e w' => (e = .returned (.slice (some ⟨W.heap.size, 0, none⟩) 4 4) ∧ Buf w' W.heap.size (.slice (some ⟨W.heap.size, 0, none⟩) 4 4) (four vl)) ∧ Below W.heap.size W w' := fun W => by
          have := refFour_any V1.size (by omega) W
          rw [hvl0] at this ⊢; exact this
        have FV := Lib.hid fv
        clear fg fv hvl0 hcv hval hG hstep
        go_upto_region 5 with fail
        go_quiet (fail)
        go_upto_region 8 with fail
        have BWQ := Lib.hid ((belowDrewN BW.out nq).drew)
        refine wp_region_held_drew (S := (fun W => W.cell? ⟨g, o + k * 3, none⟩ = some (.string K1))) (by kernel_rfl) (CK.out _ BWQ.out) (fun hHeld => ?_)
        refine wpAnyH_take (i := 0) (oi := _) (v := ?v14) (by simp only [List.getElem?_toArray, List.getElem?_cons_succ, List.getElem?_cons_zero]; rfl) (by kernel_rfl) (by kernel_rfl) (by kernel_rfl) (by exact fun _ _ _ h => h) (Or.inl ⟨by rfl, ?hy14⟩) (by assumption) ?rest14
        case hy14 => (intro w hSw; (try dsimp only at hSw); go_simp; try with_reducible rfl)
        try simp only [Act.put, List.setIfInBounds_toArray, List.set_cons_zero, List.set_cons_succ]
        refine wpAnyH_take (i := 1) (oi := _) (v := ?v15) (by simp only [List.getElem?_toArray, List.getElem?_cons_succ, List.getElem?_cons_zero]; rfl) (by kernel_rfl) (by kernel_rfl) (by kernel_rfl) (by exact fun _ _ _ h => h) (Or.inl ⟨by rfl, ?hy15⟩) (by assumption) ?rest15
        case hy15 => (intro w hSw; (try dsimp only at hSw); go_simp; try with_reducible rfl)
        try simp only [Act.put, List.setIfInBounds_toArray, List.set_cons_zero, List.set_cons_succ]
        refine wpAnyH_take (i := 4) (oi := _) (v := ?v16) (by simp only [List.getElem?_toArray, List.getElem?_cons_succ, List.getElem?_cons_zero]; rfl) (by kernel_rfl) (by kernel_rfl) (by kernel_rfl) (by exact fun _ _ _ h => h) (Or.inl ⟨by rfl, ?hy16⟩) (by assumption) ?rest16
        case hy16 => (intro w hSw; (try dsimp only at hSw); go_simp; try with_reducible rfl)
        try simp only [Act.put, List.setIfInBounds_toArray, List.set_cons_zero, List.set_cons_succ]
        refine wpAnyH_take (i := 5) (oi := _) (v := ?v17) (by simp only [List.getElem?_toArray, List.getElem?_cons_succ, List.getElem?_cons_zero]; rfl) (by kernel_rfl) (by kernel_rfl) (by kernel_rfl) (by exact fun _ _ _ h => h) (Or.inl ⟨by rfl, ?hy17⟩) (by assumption) ?rest17
        case hy17 => (intro w hSw; (try dsimp only at hSw); go_simp; try with_reducible rfl)
        try simp only [Act.put, List.setIfInBounds_toArray, List.set_cons_zero, List.set_cons_succ]
        refine wpAnyH_take (i := 6) (oi := _) (v := ?v18) (by simp only [List.getElem?_toArray, List.getElem?_cons_succ, List.getElem?_cons_zero]; rfl) (by kernel_rfl) (by kernel_rfl) (by kernel_rfl) (by exact fun _ _ _ h => h) (Or.inl ⟨by rfl, ?hy18⟩) (by assumption) ?rest18
        case hy18 => (intro w hSw; (try dsimp only at hSw); go_simp; try with_reducible rfl)
        try simp only [Act.put, List.setIfInBounds_toArray, List.set_cons_zero, List.set_cons_succ]
        refine wpAnyH_take (i := 7) (oi := _) (v := ?v19) (by simp only [List.getElem?_toArray, List.getElem?_cons_succ, List.getElem?_cons_zero]; rfl) (by kernel_rfl) (by kernel_rfl) (by kernel_rfl) (by exact fun _ _ _ h => h) (Or.inl ⟨by rfl, ?hy19⟩) (by assumption) ?rest19
        case hy19 => (intro w hSw; (try dsimp only at hSw); go_simp; try with_reducible rfl)
        try simp only [Act.put, List.setIfInBounds_toArray, List.set_cons_zero, List.set_cons_succ]
        refine wpAnyH_take (i := 8) (oi := _) (v := ?v20) (by simp only [List.getElem?_toArray, List.getElem?_cons_succ, List.getElem?_cons_zero]; rfl) (by kernel_rfl) (by kernel_rfl) (by kernel_rfl) (by exact fun _ _ _ h => h) (Or.inl ⟨by rfl, ?hy20⟩) (by assumption) ?rest20
        case hy20 => (intro w hSw; (try dsimp only at hSw); go_simp; try with_reducible rfl)
        try simp only [Act.put, List.setIfInBounds_toArray, List.set_cons_zero, List.set_cons_succ]
        refine wpAnyH_take (i := 9) (oi := _) (v := ?v21) (by simp only [List.getElem?_toArray, List.getElem?_cons_succ, List.getElem?_cons_zero]; rfl) (by kernel_rfl) (by kernel_rfl) (by kernel_rfl) (by exact fun _ _ _ h => h) (Or.inl ⟨by rfl, ?hy21⟩) (by assumption) ?rest21
        case hy21 => (intro w hSw; (try dsimp only at hSw); go_simp; try with_reducible rfl)
        try simp only [Act.put, List.setIfInBounds_toArray, List.set_cons_zero, List.set_cons_succ]
        refine wpAnyH_ready (rs := [2]) (by kernel_rfl) (by simp) ?_
        refine AllReadyH.cons (o := _) (by simp only [List.getElem?_toArray, List.getElem?_cons_succ, List.getElem?_cons_zero]; rfl) (fun K hK => ?_) AllReadyH.nil
        go_simp
        go_at_call 63
        (with_reducible refine (FG.out _).mono ?_)
        rintro e w2 ⟨⟨rfl, hB2⟩, hb2⟩
        have B2 := Lib.hid (BWQ.out.chain hb2)
        have O2 := Lib.hid (own_below (own_drewN OWN.out _) hb2)
        have N2 := Lib.hid (four_newsR hB2)
        clear hb2 hB2
        dsimp only
        refine hK.out _ _ (CK.out _ B2.out) (fun hHeld => ?_)
        clear hK K
        try simp only [Act.put, List.setIfInBounds_toArray, List.set_cons_zero, List.set_cons_succ]
        refine wpAnyH_ready (rs := [3]) (by kernel_rfl) (by simp) ?_
        refine AllReadyH.cons (o := _) (by simp only [List.getElem?_toArray, List.getElem?_cons_succ, List.getElem?_cons_zero]; rfl) (fun K hK => ?_) AllReadyH.nil
        refine step_append_opt rfl (.tmp 26) (.tmp 28) 40 rfl w.heap.size 5 i0 _ 1 1 Tryd.underlying40 hi hz0 hz1 hz2 rfl (by decide) _ _ _ rfl O2.out _ 4 4 (cells (four 0)) rfl (fourv_cells _) N2.out (cells_one _) (by have := SZ.out; unfold maxLen; omega) (by have := SZ.out; omega) B2.out.size ?_
        intro v3 w3 hown3 hg3 _
        have B3 := Lib.hid (B2.out.grown hg3 B2.out.size (fun j hj => (O2.out.lt j hj).1))
        have O3 := Lib.hid hown3
        clear hown3 hg3
        refine hK.out _ _ (CK.out _ B3.out) (fun hHeld => ?_)
        clear hK K
        try simp only [Act.put, List.setIfInBounds_toArray, List.set_cons_zero, List.set_cons_succ]
        refine wpAnyH_ready (rs := [10]) (by kernel_rfl) (by simp) ?_
        refine AllReadyH.cons (o := _) (by simp only [List.getElem?_toArray, List.getElem?_cons_succ, List.getElem?_cons_zero]; rfl) (fun K hK => ?_) AllReadyH.nil
        go_simp
        go_at_call 63
        (with_reducible refine (FK.out _).mono ?_)
        rintro e w4 ⟨⟨rfl, hB4⟩, hb4⟩
        have B4 := Lib.hid (B3.out.chain hb4)
        have O4 := Lib.hid (own_below O3.out hb4)
        have N4 := Lib.hid (four_newsR hB4)
        clear hb4 hB4
        dsimp only
        refine hK.out _ _ (CK.out _ B4.out) (fun hHeld => ?_)
        clear hK K
        try simp only [Act.put, List.setIfInBounds_toArray, List.set_cons_zero, List.set_cons_succ]
        refine wpAnyH_ready (rs := [11]) (by kernel_rfl) (by simp) ?_
        refine AllReadyH.cons (o := _) (by simp only [List.getElem?_toArray, List.getElem?_cons_succ, List.getElem?_cons_zero]; rfl) (fun K hK => ?_) AllReadyH.nil
        refine step_append_opt rfl (.tmp 29) (.tmp 36) 40 rfl w.heap.size 5 i0 _ 1 1 Tryd.underlying40 hi hz0 hz1 hz2 rfl (by decide) _ _ _ rfl O4.out _ 4 4 (cells (four kl)) rfl (fourv_cells _) N4.out (cells_one _) (by have := SZ.out; unfold maxLen; omega) (by have := SZ.out; omega) B4.out.size ?_
        intro v5 w5 hown5 hg5 _
        have B5 := Lib.hid (B4.out.grown hg5 B4.out.size (fun j hj => (O4.out.lt j hj).1))
        have O5 := Lib.hid hown5
        clear hown5 hg5
        refine hK.out _ _ (CK.out _ B5.out) (fun hHeld => ?_)
        clear hK K
        try simp only [Act.put, List.setIfInBounds_toArray, List.set_cons_zero, List.set_cons_succ]
        refine wpAnyH_take (i := 12) (oi := _) (v := ?v26) (by simp only [List.getElem?_toArray, List.getElem?_cons_succ, List.getElem?_cons_zero]; rfl) (by kernel_rfl) (by kernel_rfl) (by kernel_rfl) (by exact fun _ _ _ h => h) (Or.inl ⟨by rfl, ?hy26⟩) (by assumption) ?rest26
        case hy26 => (intro w hSw; (try dsimp only at hSw); go_simp; try with_reducible rfl)
        try simp only [Act.put, List.setIfInBounds_toArray, List.set_cons_zero, List.set_cons_succ]
        refine wpAnyH_done (by kernel_rfl) ?_ _
        have c5k := CK.out _ B5.out
        go_wp2_with (at_builtin; refine Lib.wpList_append_own_string _ rfl _ _ 40 9 rfl w.heap.size 5 i0 Tryd.underlying40 Tryd.underlying9 hi hz0 hz1 hz2 _ _ _ rfl O5.out K1 rfl (by have := SZ.out; have := KS.out; unfold maxLen; omega) (by have := SZ.out; have := KS.out; omega) B5.out.size ?_)
        intro v6 w6 hown6 hg6 _
        have B6 := Lib.hid (B5.out.grown hg6 B5.out.size (fun j hj => (O5.out.lt j hj).1))
        have O6 := Lib.hid hown6
        clear hown6 hg6 c5k
        go_wp2_with fail
        refine (FV.out _).mono ?_
        rintro e w7 ⟨⟨rfl, hB7⟩, hb7⟩
        have B7 := Lib.hid (B6.out.chain hb7)
        have O7 := Lib.hid (own_below O6.out hb7)
        have N7 := Lib.hid (four_newsR hB7)
        clear hb7 hB7
        dsimp only
        go_wp2_with (at_builtin; refine wpList_append_opt rfl _ _ 40 rfl w.heap.size 5 i0 _ 1 1 Tryd.underlying40 hi hz0 hz1 hz2 rfl (by decide) _ _ _ rfl O7.out _ 4 4 (cells (four vl)) rfl (fourv_cells _) N7.out (cells_one _) (by have := SZ.out; have := KS.out; unfold maxLen; omega) (by have := SZ.out; have := KS.out; omega) B7.out.size ?_)
        intro v8 w8 hown8 hg8 _
        have B8 := Lib.hid (B7.out.grown hg8 B7.out.size (fun j hj => (O7.out.lt j hj).1))
        have O8 := Lib.hid hown8
        clear hown8 hg8
        go_wp2_with (at_builtin; refine Lib.wpList_append_own_string _ rfl _ _ 40 9 rfl w.heap.size 5 i0 Tryd.underlying40 Tryd.underlying9 hi hz0 hz1 hz2 _ _ _ rfl O8.out V1 rfl (by have := SZ.out; have := KS.out; have := VL.out; unfold maxLen; omega) (by have := SZ.out; have := KS.out; have := VL.out; omega) B8.out.size ?_)
        intro v9 w9 hown9 hg9 _
        have B9 := Lib.hid (B8.out.grown hg9 B8.out.size (fun j hj => (O8.out.lt j hj).1))
        have O9 := Lib.hid hown9
        clear hown9 hg9
        go_wp2
        go_roundw
        case rel =>
          refine ⟨k + 1, by omega, by go_num, Lib.hid ⟨?_, B9.out⟩⟩
          rw [STEP.out]
          refine Buf.cut O9.out ?_ ?_
          · have := KS.out; have := VL.out; have h00 : (⟨#[]⟩ : ByteArray).size = 0 := rfl
            simp only [List.length_append, four_len]
            rw [KL.out, VLL.out, PL.out]
            omega
          · simp only [cells_app]
            rw [CK1.out, CV1.out]
            simp only [List.append_assoc]
        case measure => simp [intOf]; omega
    · obtain rfl : k = n := by omega
      have hkr : decide ((k : Int) < k) = false := by simp
      have hbuf := hT.out.1
      rw [recP_all l k (by rw [HN.out]; exact Nat.le_refl _)] at hbuf
      have BUF := Lib.hid hbuf; have BW := Lib.hid hT.out.2
      clear hbuf hT
      go_wp2
      go_ret
      exact ⟨⟨_, rfl, BUF.out⟩, BW.out⟩
end Go.Proofs.YtklhdffbaglkdaaDoor
namespace Go.Proofs.YtklhdffbaglkdaaDoor
open Go.RowKit
set_option linter.unusedVariables false
set_option linter.unusedSimpArgs false

/-- blocks that are no rows of bytes lie as they lay -/
def KeepsC (w w' : World) : Prop := ∀ (c : Nat) (cs : Array Value) (t : TypeId) (fr : Nat × Nat), w.heap[c]? = some (.cells cs t fr) → t ≠ 5 → w'.heap[c]? = some (.cells cs t fr)
theorem KeepsC.refl (w : World) : KeepsC w w := fun _ _ _ _ h _ => h
theorem KeepsC.trans {w w' w'' : World} (h : KeepsC w w') (h' : KeepsC w' w'') : KeepsC w w'' := fun c cs t fr hc ht => h' c cs t fr (h c cs t fr hc ht) ht
theorem KeepsC.below {w w' : World} (h : Below w.heap.size w w') : KeepsC w w' := fun c _ _ _ hc _ => (h.block c (Array.getElem?_eq_some_iff.1 hc).1).trans hc
theorem KeepsC.grown {B n : Nat} {w w0 w' : World} {v : Value} {xs : List Value} (hown : w0.ownsRow B 5 1 v n xs) (h0 : KeepsC w w0) (hg : w0.grownBy w' v.ownBlock) : KeepsC w w' := fun c cs t fr hc ht => by
  have h1 := h0 c cs t fr hc ht
  exact (hg.block c (Array.getElem?_eq_some_iff.1 h1).1 (fun e => own_not hown h1 (fun e => ht e.symm) e.symm)).trans h1
theorem fourI_cells (x : Nat) (hx : x < 4294967296) : cells (four x) = [.int .u8 ((x : Int) / 16777216), .int .u8 ((x : Int) / 65536 % 256), .int .u8 ((x : Int) / 256 % 256), .int .u8 ((x : Int) % 256)] := by
  have k : ∀ m : Nat, ((UInt8.ofNat m).toNat : Int) = (m : Int) % 256 := fun m => by rw [UInt8.toNat_ofNat']; omega
  unfold cells four
  have e : (((x / 16777216 : Nat) : Int) % 256) = (x : Int) / 16777216 := by omega
  simp only [List.map_cons, List.map_nil, k]
  rw [e]
  rfl
set_option maxRecDepth 100000 in
set_option maxHeartbeats 1000000 in
theorem withNumber_any (B : Nat) (v : Value) (acc : List UInt8) (x : Nat) (hx : x ≤ 1000000000) (ha : acc.length ≤ 100000000) (w : World) (hB : B ≤ w.heap.size) (h : Buf w B v acc) :
    Calls Tryd.prog 56 #[v, .int .i64 x] w fun e w' => (∃ v', e = .returned v' ∧ Buf w' B v' (acc ++ four x)) ∧ Below B w w' ∧ KeepsC w w' := by
  obtain ⟨i0, hi, hz0, hz1, hz2⟩ := info_parts Tryd.infoByte
  have hcs := fourI_cells x (by omega)
  have hown := h
  unfold Buf at hown
  have OWN := Lib.hid hown; have HCS := Lib.hid hcs
  clear h hown hcs
  go_enter Tryd.func56, Tryd.ntmps56
  go_wp2_with (at_builtin; refine wpList_append_opt rfl (.tmp 5) (.tmp 17) 40 rfl B 5 i0 _ 1 1 Tryd.underlying40 hi hz0 hz1 hz2 rfl (by decide) _ _ _ rfl (World.ownsRow.alloc OWN.out _) (some ⟨_, 0, none⟩) 4 4 (cells (four x)) rfl rfl (.inr ⟨_, rfl, ?_⟩) (cells_one _) (by unfold maxLen; omega) (by omega) (by simp; omega) ?_)
  · rw [HCS.out]
    exact new_cells _ #[_, _, _, _] _
  · intro v8 w8 hown8 hg8 _
    have hb8 : Below B w w8 := ((Below.refl B w).alloc hB _).grown hg8 (by simp; omega) (fun j hj => (OWN.out.lt j hj).1)
    go_wp2
    go_ret
    exact ⟨⟨_, rfl, Buf.cut hown8 (by rw [List.length_append]; rfl) (by unfold cells; rw [List.map_append])⟩, hb8, KeepsC.grown (World.ownsRow.alloc OWN.out _) (KeepsC.below ((Below.refl _ _).alloc (Nat.le_refl _) _)) hg8⟩
set_option maxRecDepth 100000 in
set_option maxHeartbeats 1000000 in
theorem withText_any (B : Nat) (v : Value) (acc : List UInt8) (S : ByteArray) (s : List UInt8) (hS : S = ⟨s.toArray⟩) (hs : s.length ≤ 10000000) (ha : acc.length ≤ 90000000) (w : World) (hB : B ≤ w.heap.size) (h : Buf w B v acc) :
    Calls Tryd.prog 71 #[v, .string S] w fun e w' => (∃ v', e = .returned v' ∧ Buf w' B v' (acc ++ four s.length ++ s)) ∧ Below B w w' ∧ KeepsC w w' := by
  obtain ⟨i0, hi, hz0, hz1, hz2⟩ := info_parts Tryd.infoByte
  have hsz : S.size = s.length := by rw [hS]; show s.toArray.size = _; simp
  have hnum := withNumber_any B v acc S.size (by omega) (by omega) w hB h
  have hck : Lib.strCells S = cells s := by rw [hS]; unfold Lib.strCells cells; simp
  have NUM := Lib.hid hnum; have SZ := Lib.hid hsz; have CK := Lib.hid hck
  clear hnum hsz hck hS h
  go_enter Tryd.func71, Tryd.ntmps71
  go_wp2_with fail
  refine NUM.out.mono ?_
  rintro e w1 ⟨⟨v1, rfl, hB1⟩, hb1, hk1⟩
  have KC1 := Lib.hid hk1
  clear hk1
  rw [SZ.out] at hB1
  unfold Buf at hB1
  have OWN := Lib.hid hB1; have B1 := Lib.hid hb1
  clear hB1 hb1
  have hlen : (acc ++ four s.length).length = acc.length + 4 := by rw [List.length_append, four_len]
  dsimp only
  go_wp2_with (at_builtin; refine Lib.wpList_append_own_string _ rfl _ _ 40 9 rfl B 5 i0 Tryd.underlying40 Tryd.underlying9 hi hz0 hz1 hz2 _ _ _ rfl OWN.out S rfl (by rw [hlen, SZ.out]; unfold maxLen; omega) (by rw [hlen, SZ.out]; omega) (Nat.le_trans hB B1.out.size) ?_)
  intro v8 w8 hown8 hg8 _
  have hb8 : Below B w w8 := B1.out.grown hg8 (Nat.le_trans hB B1.out.size) (fun j hj => (OWN.out.lt j hj).1)
  go_wp2
  go_ret
  exact ⟨⟨_, rfl, Buf.cut hown8 (by rw [List.length_append, SZ.out, hlen]) (by rw [CK.out]; simp [cells])⟩, hb8, KeepsC.grown OWN.out KC1.out hg8⟩
theorem zero_or_one (b : Bool) : (if b = true then 1 else 0 : Nat) ≤ 1 := by cases b <;> decide
set_option maxRecDepth 100000 in
set_option maxHeartbeats 2000000 in
theorem withChange_any (B : Nat) (v : Value) (acc : List UInt8) (x : Ch) (S1 S2 : ByteArray) (G : Bool) (hS1 : S1 = ⟨x.key.toArray⟩) (hS2 : S2 = ⟨x.value.toArray⟩) (hG : G = x.gone) (hk : x.key.length ≤ 10000000) (hv : x.val.length ≤ 10000000) (ha : acc.length ≤ 10000000) (w : World) (hB : B ≤ w.heap.size) (h : Buf w B v acc) :
    Calls Tryd.prog 57 #[v, .agg #[.string S1, .string S2, .bool G]] w fun e w' => (∃ v', e = .returned v' ∧ Buf w' B v' (acc ++ recOne x)) ∧ Below B w w' ∧ KeepsC w w' := by
  have hrec : acc ++ recOne x = ((acc ++ four (if x.gone = true then 1 else 0)) ++ four x.key.length ++ x.key) ++ four x.val.length ++ x.val := by
    unfold recOne
    simp only [List.append_assoc]
  obtain ⟨W0, hW0⟩ : ∃ W, W = w.alloc (.cells #[.string S1, .string S2, .bool G] 61 (0, 0)) := ⟨_, rfl⟩
  have hb0 : Below w.heap.size w W0 := by rw [hW0]; exact (Below.refl _ _).alloc (Nat.le_refl _) _
  have k0 : W0.heap[w.heap.size]? = some (.cells #[.string S1, .string S2, .bool G] 61 (0, 0)) := by rw [hW0]; exact heap_alloc_last w _
  obtain ⟨⟨c0, c1, c2⟩, -⟩ := box3_of k0
  have hown0 : Buf W0 B v acc := own_below h hb0
  have hc0 : ∀ W, Below W0.heap.size W0 W → W.cell? ⟨w.heap.size, 0, none⟩ = some (.string S1) := fun W hb => (cell_here (blk_below k0 hb)).trans rfl
  obtain ⟨g, hg⟩ : ∃ g : Nat, (if x.gone = true then 1 else 0) = g := ⟨_, rfl⟩
  have hg1 : g ≤ 1 := by rw [← hg]; exact zero_or_one _
  rw [hg] at hrec
  obtain ⟨V, hV⟩ : ∃ V : ByteArray, V = ⟨x.val.toArray⟩ := ⟨_, rfl⟩
  have K0 := Lib.hid k0; have OWN := Lib.hid hown0; have HW0 := Lib.hid hW0; have B0 := Lib.hid hb0; have HREC := Lib.hid hrec; have HC0 := Lib.hid hc0; have HV := Lib.hid hV; have HS1 := Lib.hid hS1
  have HG := Lib.hid hG; have HGG := Lib.hid hg; have HS2 := Lib.hid hS2
  clear hown0 hW0 hb0 hrec k0 h hc0 hV hS1 hG hg hS2
  go_enter Tryd.func57, Tryd.ntmps57
  go_upto_region 1 with fail
  rw [← HW0.out]
  have hnum := fun W (hb : Below W0.heap.size W0 W) => withNumber_any B v acc g (by omega) (by omega) W (Nat.le_trans hB (Nat.le_trans B0.out.size hb.size)) (own_below OWN.out hb)
  have NUM := Lib.hid hnum
  clear hnum
  cases G with
  | true =>
    have hg2 : g = 1 := by rw [← HGG.out, ← HG.out]; rfl
    have hv2 : V = ⟨#[]⟩ := by
      rw [HV.out]
      unfold Ch.val
      rw [← HG.out, if_pos rfl]
    subst hg2; subst hv2
    go_quiet (fail)
    go_wp2_with fail
    have hn := NUM.out _ (belowDrewN (Below.refl _ _) nq)
    refine Calls.mono (by exact hn) ?_
    rintro e w1 ⟨⟨v1, rfl, hB1⟩, hb1, hk1⟩
    have hbx1 := hk1 _ _ _ _ (show (W0.drewN nq).heap[w.heap.size]? = _ from K0.out) (by decide)
    obtain ⟨⟨c0, -, -⟩, -⟩ := box3_of hbx1
    have hb1' : Below B w w1 := (belowDrewN (B0.out.mono hB) nq).trans hb1
    have hk1' : KeepsC w w1 := KeepsC.trans (KeepsC.below (belowDrewN B0.out nq)) hk1
    have ht := withText_any B v1 (acc ++ four 1) S1 x.key HS1.out hk (by rw [List.length_append, four_len]; omega) w1 (Nat.le_trans hB hb1'.size) hB1
    have HT := Lib.hid ht; have B1 := Lib.hid hb1'; have KC1 := Lib.hid hk1'
    clear hn hB1 hb1 hk1 hbx1 ht hb1' hk1'
    dsimp only
    go_wp2_with fail
    refine HT.out.mono ?_
    rintro e w2 ⟨⟨v2, rfl, hB2⟩, hb2, hk2⟩
    have ht := withText_any B v2 (acc ++ four 1 ++ four x.key.length ++ x.key) ⟨#[]⟩ x.val HV.out hv (by simp only [List.length_append, four_len]; omega) w2 (Nat.le_trans hB (B1.out.trans hb2).size) hB2
    have HT2 := Lib.hid ht; have B2 := Lib.hid (B1.out.trans hb2); have KC2 := Lib.hid (KC1.out.trans hk2)
    clear hB2 hb2 hk2 ht c0
    dsimp only
    go_wp2_with fail
    refine HT2.out.mono ?_
    rintro e w3 ⟨⟨v3, rfl, hB3⟩, hb3, hk3⟩
    have HEND : Hid ((∃ v', Ending.returned v3 = .returned v' ∧ Buf w3 B v' (acc ++ recOne x)) ∧ Below B w w3 ∧ KeepsC w w3) := Lib.hid ⟨⟨v3, rfl, by rw [HREC.out]; exact hB3⟩, B2.out.trans hb3, KC2.out.trans hk3⟩
    clear hB3 hb3 hk3
    dsimp only
    go_wp2
    go_ret
    exact HEND.out
  | false =>
    have hg2 : g = 0 := by rw [← HGG.out, ← HG.out]; rfl
    have hv2 : V = S2 := by
      rw [HV.out, HS2.out]
      unfold Ch.val
      rw [← HG.out, if_neg Bool.false_ne_true]
    subst hg2; subst hv2
    go_quiet (fail)
    go_wp2_with fail
    have hn := NUM.out _ (belowDrewN (Below.refl _ _) nq)
    refine Calls.mono (by exact hn) ?_
    rintro e w1 ⟨⟨v1, rfl, hB1⟩, hb1, hk1⟩
    have hbx1 := hk1 _ _ _ _ (show (W0.drewN nq).heap[w.heap.size]? = _ from K0.out) (by decide)
    obtain ⟨⟨c0, -, -⟩, -⟩ := box3_of hbx1
    have hb1' : Below B w w1 := (belowDrewN (B0.out.mono hB) nq).trans hb1
    have hk1' : KeepsC w w1 := KeepsC.trans (KeepsC.below (belowDrewN B0.out nq)) hk1
    have ht := withText_any B v1 (acc ++ four 0) S1 x.key HS1.out hk (by rw [List.length_append, four_len]; omega) w1 (Nat.le_trans hB hb1'.size) hB1
    have HT := Lib.hid ht; have B1 := Lib.hid hb1'; have KC1 := Lib.hid hk1'
    clear hn hB1 hb1 hk1 hbx1 ht hb1' hk1'
    dsimp only
    go_wp2_with fail
    refine HT.out.mono ?_
    rintro e w2 ⟨⟨v2, rfl, hB2⟩, hb2, hk2⟩
    have ht := withText_any B v2 (acc ++ four 0 ++ four x.key.length ++ x.key) V x.val HV.out hv (by simp only [List.length_append, four_len]; omega) w2 (Nat.le_trans hB (B1.out.trans hb2).size) hB2
    have HT2 := Lib.hid ht; have B2 := Lib.hid (B1.out.trans hb2); have KC2 := Lib.hid (KC1.out.trans hk2)
    clear hB2 hb2 hk2 ht c0
    dsimp only
    go_wp2_with fail
    refine HT2.out.mono ?_
    rintro e w3 ⟨⟨v3, rfl, hB3⟩, hb3, hk3⟩
    have HEND : Hid ((∃ v', Ending.returned v3 = .returned v' ∧ Buf w3 B v' (acc ++ recOne x)) ∧ Below B w w3 ∧ KeepsC w w3) := Lib.hid ⟨⟨v3, rfl, by rw [HREC.out]; exact hB3⟩, B2.out.trans hb3, KC2.out.trans hk3⟩
    clear hB3 hb3 hk3
    dsimp only
    go_wp2
    go_ret
    exact HEND.out
end Go.Proofs.YtklhdffbaglkdaaDoor
namespace Go.Proofs.YtklhdffbaglkdaaDoor
open Go.RowKit
set_option linter.unusedVariables false
set_option linter.unusedSimpArgs false

theorem recP_one (l : List Ch) (k : Nat) (x : Ch) (h : l.take (k + 1) = l.take k ++ [x]) : recP l (k + 1) = recP l k ++ recOne x := by
  unfold recP
  rw [h, recAll_snoc, List.append_assoc]
theorem recOne_le (l : List Ch) (x : Ch) (h : x ∈ l) : x.key.length ≤ (recL l).length ∧ x.val.length ≤ (recL l).length := by
  have h1 := recAll_mem l x h
  rw [recOne_len] at h1
  rw [recL_len]
  omega
/-- what a record's printing is -/
def PrintIs (w : World) (B : Nat) (l : List Ch) (e : Ending) : Prop :=
  ((recL l).length ≤ 32768 ∧ ∃ v, e = .returned (.tuple #[v, .bool true]) ∧ Buf w B v (recL l)) ∨ (32768 < (recL l).length ∧ e = .returned (.tuple #[.slice none 0 0, .bool false]))
set_option maxRecDepth 100000 in
set_option maxHeartbeats 4000000 in
theorem sprinted_any (A : Option Addr) (n c : Nat) (l : List Ch) (hn : l.length = n) (hl : (recL l).length ≤ 10000000) (w : World) (h : RdC w (.slice A n c) l) :
    Calls Tryd.prog 36 #[.slice A n c] w fun e w' => PrintIs w' w.heap.size l e ∧ Below w.heap.size w w' := by
  have hnl : n ≤ 10000000 := by
    have h1 := recAll_len l
    rw [recL_len] at hl
    omega
  have hall : ∀ k, (recP l k).length ≤ (recL l).length := recP_le l
  have hnum := withNumber_any w.heap.size (.slice none 0 0) [] n (by omega) (by simp) w (Nat.le_refl _) (World.ownsRow_nil _ _ _ _)
  rw [List.nil_append] at hnum
  have HRC := Lib.hid h; have HN := Lib.hid hn; have ALL := Lib.hid hall; have NUM := Lib.hid hnum; have HL := Lib.hid hl
  clear h hn hall hnum hl
  go_enter Tryd.func36, Tryd.ntmps36
  go_wp2_with fail
  refine NUM.out.mono ?_
  rintro e w1 ⟨⟨v1, rfl, hB1⟩, hb1, -⟩
  have BUF1 := Lib.hid hB1; have B1 := Lib.hid hb1; clear hB1 hb1
  dsimp only
  go_wp2_with fail
  go_loopw [4, 6, 12] (fun v x i W => ∃ k : Nat, k ≤ n ∧ i = .int .i64 k ∧ Hid (Buf W w.heap.size v (recP l k) ∧ (recP l k).length ≤ 32768 ∧ Below w.heap.size w W)) (fun _ _ i _ => n - (intOf i).toNat)
  case atStart => exact ⟨0, Nat.zero_le _, rfl, Lib.hid ⟨by rw [recP_zero, HN.out]; exact BUF1.out, by rw [recP_zero, four_len]; omega, B1.out⟩⟩
  case round =>
    obtain ⟨k, hk, rfl, hT⟩ := hrel
    by_cases hlt : k < n
    · have hkr : decide ((k : Int) < n) = true := by simp; omega
      have hkl : k < l.length := by rw [HN.out]; exact hlt
      have hk0 : (0 : Int) ≤ k := by omega
      have hk1 : (k : Int) < n := by omega
      obtain ⟨g, o, rfl, hg, e0, e1, e2⟩ := (HRC.out.below hT.out.2.2).at k hkl
      obtain ⟨x, hx⟩ : ∃ x, l[k] = x := ⟨_, rfl⟩
      have htk : l.take (k + 1) = l.take k ++ [x] := by rw [List.take_succ_eq_append_getElem hkl, hx]
      have hstep := recP_one l k x htk
      have hle := recOne_le l x (by rw [← hx]; exact List.getElem_mem hkl)
      obtain ⟨S1, hS1⟩ : ∃ X : ByteArray, X = ⟨x.key.toArray⟩ := ⟨_, rfl⟩
      obtain ⟨S2, hS2⟩ : ∃ X : ByteArray, X = ⟨x.value.toArray⟩ := ⟨_, rfl⟩
      obtain ⟨G, hG⟩ : ∃ X, X = x.gone := ⟨_, rfl⟩
      rw [hx] at e0 e1 e2
      unfold tv at e0 e1
      rw [← hS1] at e0
      rw [← hS2] at e1
      rw [← hG] at e2
      obtain ⟨W1, hW1⟩ : ∃ W, W = wr.alloc (.cells #[.string S1, .string S2, .bool G] 61 (0, 0)) := ⟨_, rfl⟩
      have hb1 : Below wr.heap.size wr W1 := by rw [hW1]; exact (Below.refl _ _).alloc (Nat.le_refl _) _
      have k1 : W1.heap[wr.heap.size]? = some (.cells #[.string S1, .string S2, .bool G] 61 (0, 0)) := by rw [hW1]; exact heap_alloc_last wr _
      have hch := withChange_any w.heap.size u4 (recP l k) x S1 S2 G hS1 hS2 hG (by have := HL.out; omega) (by have := HL.out; omega) (by have := hT.out.2.1; omega) W1 (Nat.le_trans hT.out.2.2.size hb1.size) (own_below hT.out.1 hb1)
      rw [← hstep] at hch
      have CH := Lib.hid hch; have K1 := Lib.hid k1; have HW1 := Lib.hid hW1; have BB := Lib.hid hb1
      clear hch k1 hW1 hb1 hstep hle htk hx hS1 hS2 hG hg hkl
      go_upto_region 5 with fail
      rw [← HW1.out]
      obtain ⟨⟨c0, c1, c2⟩, -⟩ := box3_of K1.out
      go_wp2_with fail
      refine CH.out.mono ?_
      rintro e w2 ⟨⟨v2, rfl, hB2⟩, hb2, -⟩
      have hb2' : Below w.heap.size w w2 := (hT.out.2.2.chain BB.out).trans hb2
      obtain ⟨A2, c2', rfl⟩ := own_form hB2
      obtain ⟨m, hm⟩ : ∃ m, (recP l (k + 1)).length = m := ⟨_, rfl⟩
      have B2 := Lib.hid hb2'; have BUF2 := Lib.hid hB2; have HM := Lib.hid hm
      rw [hm]
      clear hb2 hB2 hb2' hm c0 c1 c2 e0 e1 e2
      by_cases hbig : 32768 < m
      · have hd : decide ((32768 : Int) < (m : Int)) = true := by simp; omega
        have hp : PrintIs w2 w.heap.size l (.returned (.tuple #[.slice none 0 0, .bool false])) := .inr ⟨by have := ALL.out (k + 1); rw [HM.out] at this; omega, rfl⟩
        have HP := Lib.hid hp
        clear hp
        dsimp only
        go_wp2
        go_ret2
        exact ⟨HP.out, B2.out⟩
      · have hd : decide ((32768 : Int) < (m : Int)) = false := by simp; omega
        have hd2 : ¬ (32768 : Int) < (m : Int) := by omega
        dsimp only
        go_wp2
        go_roundw
        case rel => exact ⟨k + 1, by omega, by go_num, Lib.hid ⟨by have := BUF2.out; rwa [HM.out] at this, by rw [HM.out]; omega, B2.out⟩⟩
        case measure => simp [intOf]; omega
    · obtain rfl : k = n := by omega
      have hkr : decide ((k : Int) < k) = false := by simp
      have he := recP_all l k (by rw [HN.out]; exact Nat.le_refl _)
      have hp : ∀ W, Below wr.heap.size wr W → PrintIs W w.heap.size l (.returned (.tuple #[u4, .bool true])) ∧ Below w.heap.size w W := fun W hb => ⟨.inl ⟨by have := hT.out.2.1; rwa [he] at this, u4, rfl, own_below (by have := hT.out.1; rwa [he] at this) hb⟩, hT.out.2.2.chain hb⟩
      have HP := Lib.hid hp
      clear hp he
      go_wp2
      go_ret2
      exact HP.out _ (Below.refl _ _)
end Go.Proofs.YtklhdffbaglkdaaDoor
