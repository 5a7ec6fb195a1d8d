/- Layer 11's law FrameBack, out of what the code's frames do. -/
import Derived.Test.YtdflghphjhejdaaDoorLawFrameT
namespace Go.Proofs.YtdflghphjhejdaaDoor
open Go.RowKit
set_option linter.unusedVariables false
set_option linter.unusedSimpArgs false

theorem framesL_le : ∀ (ls : List (List UInt8)), (∀ b ∈ ls, b.length ≤ 1000) → (framesL ls).length ≤ 1008 * ls.length
  | [], _ => Nat.zero_le _
  | b :: r, h => by
    rw [framesL_cons, List.length_append, frameL_len, List.length_cons]
    have h1 := h b (List.mem_cons_self ..)
    have h2 := framesL_le r fun x hx => h x (List.mem_cons_of_mem _ hx)
    omega
theorem take_step {α : Type} (l : List α) (k : Nat) (h : k < l.length) : l.take (k + 1) = l.take k ++ [l[k]] := List.take_succ_eq_append_getElem h
theorem all_step2 {l : List (List UInt8)} {k : Nat} {E : List UInt8} (h : ∀ b ∈ l.take k, b.length ≤ 1000) (hk : l.take (k + 1) = l.take k ++ [E]) (hb : E.length ≤ 1000) : ∀ b ∈ l.take (k + 1), b.length ≤ 1000 := fun b hb' => by
  rw [hk] at hb'
  rcases List.mem_append.1 hb' with h' | h'
  · exact h b h'
  · rw [List.mem_singleton] at h'; rw [h']; exact hb
/-- an element of a slice of bytes, as it lies later -/
theorem RdB.at {w : World} {A : Option Addr} {c : Nat} {l : List (List UInt8)} (h : RdB w (.slice A l.length c) l) (k : Nat) (hk : k < l.length) : ∃ g o a1 k1, A = some ⟨g, o, none⟩ ∧ g < w.heap.size ∧ w.cell? ⟨g, o + k, none⟩ = some (.slice a1 l[k].length k1) ∧ RdW w (.slice a1 l[k].length k1) l[k] := by
  obtain ⟨A', c', e, hc, hA⟩ := h
  cases e
  obtain ⟨g, o, u, rfl, hg, hu, hr⟩ := hA k l[k] (List.getElem?_eq_getElem hk)
  obtain ⟨a1, k1, rfl⟩ := rdw_form hr
  exact ⟨g, o, a1, k1, rfl, hg, hu, hr⟩
theorem RdB.cap {w : World} {A : Option Addr} {c : Nat} {l : List (List UInt8)} (h : RdB w (.slice A l.length c) l) : l.length ≤ c := by
  obtain ⟨A', c', e, hc, hA⟩ := h
  cases e
  exact hc
theorem own_of_rd (w : World) {v : Value} {l : List UInt8} {W : World} (h : RdAt w v l) (hb : Below w.heap.size w W) : ∃ A c, v = .slice A l.length c ∧ ((A = none ∧ l.length = 0 ∧ c = 0) ∨ ∃ ad, A = some ad ∧ ∀ j u, (cells l)[j]? = some u → W.cell? (ad.add j) = some u) := (h.below hb).news
set_option maxRecDepth 100000 in
set_option maxHeartbeats 4000000 in
theorem frameBack_at (H : CodeFrame) (A : Option Addr) (c : Nat) (l : List (List UInt8)) (A' : Option Addr) (c' : Nat) (more : List UInt8) {w : World} (hl : RdB w (.slice A l.length c) l) (hm : RdAt w (.slice A' more.length c') more) (hr : RoundsIn w) :
    Calls Tryd.prog 3 #[.slice A l.length c, .slice A' more.length c'] w fun e w' => e = .returned (.bool true) ∧ Below w.heap.size w w' := by
  obtain ⟨i0, hi, hz0, hz1, hz2⟩ := info_parts Tryd.infoByte
  have hans := fun W (hb : Below w.heap.size w W) => answers11_any H W (hr.below hb)
  have HA := Lib.hid hans; clear hans
  obtain ⟨n, hn⟩ : ∃ n, l.length = n := ⟨_, rfl⟩
  obtain ⟨m, hmm⟩ : ∃ n, more.length = n := ⟨_, rfl⟩
  by_cases hbig : 50 < n ∨ 500 < m
  · rw [hn, hmm]
    by_cases h1 : 50 < n
    · have d1 : decide ((50 : Int) < n) = true := by simp; omega
      clear hbig h1 hn hmm hl hm hr H
      go_enter Tryd.func3, Tryd.ntmps3
      go_wp2_with fail
      refine (HA.out _ (Below.refl _ _)).mono ?_
      rintro e w1 ⟨rfl, hb1⟩
      have B1 := Lib.hid hb1; clear hb1
      dsimp only
      go_wp2
      go_ret
      exact ⟨rfl, B1.out⟩
    have d1 : decide ((50 : Int) < n) = false := by simp; omega
    have d2 : decide ((500 : Int) < m) = true := by simp; omega
    clear hbig h1 hn hmm hl hm hr H
    go_enter Tryd.func3, Tryd.ntmps3
    go_wp2_with fail
    refine (HA.out _ (Below.refl _ _)).mono ?_
    rintro e w1 ⟨rfl, hb1⟩
    have B1 := Lib.hid hb1; clear hb1
    dsimp only
    go_wp2
    go_ret
    exact ⟨rfl, B1.out⟩
  have h50 : n ≤ 50 := by omega
  have h500 : m ≤ 500 := by omega
  have d1 : decide ((50 : Int) < n) = false := by simp; omega
  have d2 : decide ((500 : Int) < m) = false := by simp; omega
  have HRB := Lib.hid hl; have HMO := Lib.hid hm; have HR := Lib.hid hr; have HH := Lib.hid H; have HN := Lib.hid hn; have HMM := Lib.hid hmm
  rw [hn, hmm]
  clear hbig hl hm hr H hn hmm
  go_enter Tryd.func3, Tryd.ntmps3
  go_wp2
  go_loopw [5, 6] (fun bv i W => ∃ k : Nat, k ≤ n ∧ i = .int .i64 k ∧ Hid (Buf W w.heap.size bv (framesL (l.take k)) ∧ (∀ b ∈ l.take k, b.length ≤ 1000) ∧ Below w.heap.size w W)) (fun _ i _ => n - (intOf i).toNat)
  case atStart => exact ⟨0, Nat.zero_le _, rfl, Lib.hid ⟨by rw [List.take_zero, framesL_nil]; exact World.ownsRow_nil _ _ _ _, by simp, Below.refl _ _⟩⟩
  case round =>
    obtain ⟨k, hk, rfl, hT⟩ := hrel
    by_cases hlt : k < n
    · have hkr : decide ((k : Int) < n) = true := by simp; omega
      have hkl : k < l.length := by rw [HN.out]; exact hlt
      obtain ⟨g, o, a1, k1, rfl, hg, hu, hrw⟩ := HRB.out.at k hkl
      have hk0 : (0 : Int) ≤ k := by omega
      have hk1 : (k : Int) < n := by omega
      obtain ⟨E, hE⟩ : ∃ E, l[k] = E := ⟨_, rfl⟩
      have hE2 : l.take (k + 1) = l.take k ++ [E] := by rw [take_step l k hkl, hE]
      rw [hE] at hu hrw
      obtain ⟨n1, hn1⟩ : ∃ n1, E.length = n1 := ⟨_, rfl⟩
      have hcell : ∀ W, Below w.heap.size w W → W.cell? ⟨g, o + k, none⟩ = some (.slice a1 n1 k1) := fun W hb => by
        rw [← hn1]; exact (World.cell?_of_block (hb.block g hg)).trans hu
      have hrdW : ∀ W, Below w.heap.size w W → RdW W (.slice a1 E.length k1) E := fun W hb => hrw.below hb
      have HC := Lib.hid hcell; have HRW := Lib.hid hrdW; have HE := Lib.hid hE2; have HN1 := Lib.hid hn1
      have c0 := hcell wr hT.out.2.2
      clear hcell hrdW hu hrw hE hE2 hn1 hkl hg
      by_cases h1000 : 1000 < n1
      · have d3 : decide ((1000 : Int) < n1) = true := by simp; omega
        go_wp2_with fail
        refine (HA.out _ hT.out.2.2).mono ?_
        rintro e w1 ⟨rfl, hb1⟩
        have B1 := Lib.hid (hT.out.2.2.chain hb1); clear hb1
        dsimp only
        go_wp2
        go_ret
        exact ⟨rfl, B1.out⟩
      · have d3 : decide ((1000 : Int) < n1) = false := by simp; omega
        have hf := HH.out.frame wr a1 k1 E (by have := HN1.out; omega) (HR.out.below hT.out.2.2) (HRW.out wr hT.out.2.2)
        have hrf := fun W (hb : Below wr.heap.size wr W) => refFrame_any a1 k1 E (by have := HN1.out; omega) W (HRW.out W (hT.out.2.2.chain hb))
        rw [HN1.out] at hf
        simp only [HN1.out] at hrf
        have HF := Lib.hid hf; have RF := Lib.hid hrf; clear hf hrf
        go_wp2_with fail
        refine HF.out.mono ?_
        rintro e w2 ⟨⟨v2, rfl, hr2, hge⟩, hb2⟩
        obtain ⟨A2, c2, rfl⟩ := rdw_form hr2.weak
        obtain ⟨fl, hfl⟩ : ∃ fl, (frameL E).length = fl := ⟨_, rfl⟩
        have hfl2 : fl = 8 + n1 := by rw [← hfl, frameL_len, HN1.out]
        obtain ⟨FS, hFS⟩ : ∃ F : ByteArray, F = ⟨(frameL E).toArray⟩ := ⟨_, rfl⟩
        have hst : ∀ W, Below w2.heap.size w2 W → (W.cell? ⟨g, o + k, none⟩ = some (.slice a1 n1 k1) ∧ (convert 23 9 (.slice A2 fl c2)).run Tryd.prog W = .ok (.string FS) W) := fun W hb =>
          ⟨HC.out W (hT.out.2.2.chain (hb2.chain hb)), by rw [hFS, ← hfl]; exact (hr2.below hb).text⟩
        have hst' : ∀ W, Below wr.heap.size wr W → Below w2.heap.size w2 W → True := fun _ _ _ => trivial
        have hnw : ∀ W, Below w2.heap.size w2 W → (A2 = none ∧ fl = 0 ∧ c2 = 0) ∨ ∃ ad, A2 = some ad ∧ ∀ j u, (cells (frameL E))[j]? = some u → W.cell? (ad.add j) = some u := fun W hb => by
          obtain ⟨A1, c1, e1, hA1⟩ := (hr2.below hb).news
          rw [hfl] at e1 hA1
          cases e1
          exact hA1
        have hcl : (cells (frameL E)).length = fl * 1 := by rw [Nat.mul_one, ← hfl]; simp [cells]
        rw [hfl]
        have ST := Lib.hid hst; have NW := Lib.hid hnw; have HFS := Lib.hid hFS; have B2 := Lib.hid hb2; have CL := Lib.hid hcl; have HFL := Lib.hid hfl2
        have rf2 : Hid (∀ W, Below w2.heap.size w2 W → Calls Tryd.prog 9 #[.slice a1 n1 k1] W fun e w' => (∃ v, e = .returned v ∧ Buf w' W.heap.size v (frameL E)) ∧ Below W.heap.size W w') := Lib.hid fun W hb => RF.out W (hb2.chain hb)
        clear hst hst' hnw hcl hFS hb2 hfl hfl2 hr2 hge RF
        have RF := rf2
        clear rf2
        dsimp only
        go_upto_region 10 with fail
        have W2D := Lib.hid ((Below.refl w2.heap.size w2).drew)
        refine wp_region_held_drew (S := (fun W => W.cell? ⟨g, o + k, none⟩ = some (.slice a1 n1 k1) ∧ (convert 23 9 (.slice A2 fl c2)).run Tryd.prog W = .ok (.string FS) W)) (by kernel_rfl) (ST.out _ W2D.out) (fun hHeld => ?_)
        refine wpAnyH_take (i := 0) (oi := _) (v := ?v0) (by simp only [List.getElem?_toArray, List.getElem?_cons_succ, List.getElem?_cons_zero]; rfl) (by kernel_rfl) (by kernel_rfl) (by kernel_rfl) (by exact fun _ _ _ h => h) (Or.inl ⟨by rfl, ?hy0⟩) (by assumption) ?rest0
        case hy0 => (intro w hSw; (try dsimp only at hSw); go_simp; try with_reducible rfl)
        simp only [Act.put, List.setIfInBounds_toArray, List.set_cons_zero, List.set_cons_succ]
        refine wpAnyH_take (i := 1) (oi := _) (v := ?v1) (by simp only [List.getElem?_toArray, List.getElem?_cons_succ, List.getElem?_cons_zero]; rfl) (by kernel_rfl) (by kernel_rfl) (by kernel_rfl) (by exact fun _ _ _ h => h) (Or.inl ⟨by rfl, ?hy1⟩) (by assumption) ?rest1
        case hy1 => (intro w hSw; (try dsimp only at hSw); go_simp; try with_reducible rfl)
        simp only [Act.put, List.setIfInBounds_toArray, List.set_cons_zero, List.set_cons_succ]
        refine wpAnyH_take (i := 2) (oi := _) (v := ?v2) (by simp only [List.getElem?_toArray, List.getElem?_cons_succ, List.getElem?_cons_zero]; rfl) (by kernel_rfl) (by kernel_rfl) (by kernel_rfl) (by exact fun _ _ _ h => h) (Or.inl ⟨by rfl, ?hy2⟩) (by assumption) ?rest2
        case hy2 => (intro w hSw; (try dsimp only at hSw); go_simp; try with_reducible rfl)
        simp only [Act.put, List.setIfInBounds_toArray, List.set_cons_zero, List.set_cons_succ]
        refine wpAnyH_take (i := 3) (oi := _) (v := ?v3) (by simp only [List.getElem?_toArray, List.getElem?_cons_succ, List.getElem?_cons_zero]; rfl) (by kernel_rfl) (by kernel_rfl) (by kernel_rfl) (by exact fun _ _ _ h => h) (Or.inl ⟨by rfl, ?hy3⟩) (by assumption) ?rest3
        case hy3 => (intro w hSw; (try dsimp only at hSw); go_simp; try with_reducible rfl)
        simp only [Act.put, List.setIfInBounds_toArray, List.set_cons_zero, List.set_cons_succ]
        refine wpAnyH_take (i := 4) (oi := _) (v := ?v4) (by simp only [List.getElem?_toArray, List.getElem?_cons_succ, List.getElem?_cons_zero]; rfl) (by kernel_rfl) (by kernel_rfl) (by kernel_rfl) (by exact fun _ _ _ h => h) (Or.inl ⟨by rfl, ?hy4⟩) (by assumption) ?rest4
        case hy4 => (intro w hSw; (try dsimp only at hSw); go_simp; try with_reducible rfl)
        simp only [Act.put, List.setIfInBounds_toArray, List.set_cons_zero, List.set_cons_succ]
        refine wpAnyH_take (i := 5) (oi := _) (v := ?v5) (by simp only [List.getElem?_toArray, List.getElem?_cons_succ, List.getElem?_cons_zero]; rfl) (by kernel_rfl) (by kernel_rfl) (by kernel_rfl) (by exact fun _ _ _ h => h) (Or.inl ⟨by rfl, ?hy5⟩) (by assumption) ?rest5
        case hy5 => (intro w hSw; (try dsimp only at hSw); go_simp; try with_reducible rfl)
        simp only [Act.put, List.setIfInBounds_toArray, List.set_cons_zero, List.set_cons_succ]
        refine wpAnyH_ready (rs := [6]) (by kernel_rfl) (by simp) ?_
        refine AllReadyH.cons (o := _) (by simp only [List.getElem?_toArray, List.getElem?_cons_succ, List.getElem?_cons_zero]; rfl) (fun K hK => ?_) AllReadyH.nil
        go_simp
        go_at_call 9
        (with_reducible refine (RF.out _ W2D.out).mono ?_)
        rintro e w3 ⟨⟨v3, rfl, hB3⟩, hb3⟩
        have hcv : (convert 23 9 v3).run Tryd.prog w3 = .ok (.string FS) w3 := by rw [HFS.out]; exact hB3.text
        have W3 := Lib.hid (W2D.out.chain hb3); clear hb3 hB3
        dsimp only
        refine hK.out _ _ (ST.out _ W3.out) (fun hHeld => ?_)
        clear hK K
        try simp only [Act.put, List.setIfInBounds_toArray, List.set_cons_zero, List.set_cons_succ]
        refine wpAnyH_ready (rs := [7]) (by kernel_rfl) (by simp) ?_
        refine AllReadyH.cons (o := _) (by simp only [List.getElem?_toArray, List.getElem?_cons_succ, List.getElem?_cons_zero]; rfl) (fun K hK => ?_) AllReadyH.nil
        go_simp
        refine hK.out _ _ (by assumption) (fun hHeld => ?_)
        clear hK K
        try simp only [Act.put, List.setIfInBounds_toArray, List.set_cons_zero, List.set_cons_succ]
        refine wpAnyH_take (i := 8) (oi := _) (v := ?v8) (by simp only [List.getElem?_toArray, List.getElem?_cons_succ, List.getElem?_cons_zero]; rfl) (by kernel_rfl) (by kernel_rfl) (by kernel_rfl) (by exact fun _ _ _ h => h) (Or.inl ⟨by rfl, ?hy8⟩) (by assumption) ?rest8
        case hy8 => (intro w hSw; (try dsimp only at hSw); go_simp; try with_reducible rfl)
        simp only [Act.put, List.setIfInBounds_toArray, List.set_cons_zero, List.set_cons_succ]
        refine wpAnyH_done (by kernel_rfl) ?_ _
        clear hcv
        have hbuf := own_below hT.out.1 (B2.out.chain W3.out)
        have hb3 : Below w.heap.size w w3 := hT.out.2.2.chain (B2.out.chain W3.out)
        have BUF := Lib.hid hbuf; have B3 := Lib.hid hb3
        have hpl := framesL_le (l.take k) hT.out.2.1
        have htk : (l.take k).length = k := by rw [List.length_take, HN.out]; omega
        rw [htk] at hpl
        have HPL := Lib.hid hpl
        clear hbuf hb3 htk hpl
        go_wp2_with (at_builtin; refine wpList_append_opt rfl _ _ 23 rfl w.heap.size 5 i0 _ 1 1 Tryd.underlying23 hi hz0 hz1 hz2 rfl (by decide) _ _ _ rfl BUF.out A2 fl c2 (cells (frameL E)) rfl CL.out (NW.out _ W3.out) (cells_one _) (by have := HPL.out; have := HFL.out; unfold maxLen; omega) (by have := HPL.out; have := HFL.out; omega) B3.out.size ?_)
        intro v4 w4 hown4 hg4 _
        have hb4 := B3.out.grown hg4 B3.out.size (fun j hj => (BUF.out.lt j hj).1)
        go_wp2
        go_roundw
        case rel =>
          refine ⟨k + 1, by omega, by go_num, Lib.hid ⟨?_, all_step2 hT.out.2.1 HE.out (by rw [HN1.out]; omega), hb4⟩⟩
          rw [HE.out, framesL_snoc]
          exact Buf.cut hown4 (by rw [List.length_append, frameL_len, HN1.out, HFL.out]) (by rw [cells_app])
        case measure => simp [intOf]; omega
    · obtain rfl : k = n := by omega
      have hkr : decide ((k : Int) < k) = false := by simp
      have htk : l.take k = l := List.take_of_length_le (by rw [HN.out]; exact Nat.le_refl _)
      have hT2 := hT.out
      rw [htk] at hT2
      have hpl := framesL_le l hT2.2.1
      rw [HN.out] at hpl
      obtain ⟨L, hL⟩ : ∃ L, (framesL l).length = L := ⟨_, rfl⟩
      have hbuf := hT2.1
      obtain ⟨Ab, cb, rfl⟩ := own_form hbuf
      have hrd := hbuf.rd
      rw [hL] at hpl ⊢
      have hsp := HH.out.split wr Ab cb (framesL l) (by omega) (HR.out.below hT2.2.2) hrd.weak
      have hwh := split_whole l (fun b hb => Nat.le_trans (hT2.2.1 b hb) (by decide))
      rw [hwh, hL] at hsp
      have hnb : ∀ W, Below wr.heap.size wr W → (Ab = none ∧ L = 0 ∧ cb = 0) ∨ ∃ ad, Ab = some ad ∧ ∀ j u, (cells (framesL l))[j]? = some u → W.cell? (ad.add j) = some u := fun W hb => by
        obtain ⟨A1, c1, e1, hA1⟩ := (hrd.below hb).news
        rw [hL] at e1 hA1
        cases e1
        exact hA1
      have hnm : ∀ W, Below w.heap.size w W → (A' = none ∧ m = 0 ∧ c' = 0) ∨ ∃ ad, A' = some ad ∧ ∀ j u, (cells more)[j]? = some u → W.cell? (ad.add j) = some u := fun W hb => by
        obtain ⟨A1, c1, e1, hA1⟩ := (HMO.out.below hb).news
        rw [HMM.out] at e1 hA1
        cases e1
        exact hA1
      have hcb : (cells (framesL l)).length = L * 1 := by rw [Nat.mul_one, ← hL]; simp [cells]
      have hcm : (cells more).length = m * 1 := by rw [Nat.mul_one, ← HMM.out]; simp [cells]
      obtain ⟨ALL, hALL⟩ : ∃ ALL, framesL l ++ more = ALL := ⟨_, rfl⟩
      have hsall := split_frames more l (fun b hb => Nat.le_trans (hT2.2.1 b hb) (by decide))
      rw [hALL] at hsall
      have hall : ALL.length = L + m := by rw [← hALL, List.length_append, hL, HMM.out]
      have hac : cells (framesL l) ++ cells more = cells ALL := by rw [← hALL, cells_app]
      obtain ⟨LL, hLL⟩ : ∃ LL, (splitL ALL).1 = LL := ⟨_, rfl⟩
      obtain ⟨NN, hNN⟩ : ∃ NN, (splitL ALL).2 = NN := ⟨_, rfl⟩
      have hge : k ≤ LL.length := by
        rw [← hLL, hsall, List.length_append, HN.out]; omega
      have hLn : LL.length ≤ 1000000 := by rw [← hLL]; exact Nat.le_trans (splitL_few ALL) (by omega)
      have hbl := hT2.2.2
      have SP := Lib.hid hsp; have NB := Lib.hid hnb; have NM := Lib.hid hnm; have CB := Lib.hid hcb; have CM := Lib.hid hcm; have AL := Lib.hid hall; have AC := Lib.hid hac; have HLL := Lib.hid hLL; have HNN := Lib.hid hNN; have GE := Lib.hid hge; have LN := Lib.hid hLn; have BL := Lib.hid hbl
      have c_l : ∀ W, Below w.heap.size w W → RdB W (.slice A l.length c) l := fun W hb => HRB.out.below hb
      have RL := Lib.hid c_l
      have HRDB := Lib.hid hrd
      clear hsp hnb hnm hcb hcm hall hac hLL hNN hge hLn hbl hT2 hT hwh hsall hALL hbuf hrd htk c_l hL
      go_wp2_with fail
      refine SP.out.mono ?_
      rintro e w2 ⟨⟨v2, rfl, hr2⟩, hb2⟩
      have R2 := Lib.hid hr2; have B2 := Lib.hid hb2; have B2w := Lib.hid (BL.out.chain hb2); clear hr2 hb2
      have hsm := same_any v2 (.slice A l.length c) l l (by rw [HN.out]; omega) (by rw [HN.out]; omega) w2 R2.out (RL.out w2 B2w.out)
      rw [HN.out, show decide (l = l) = true by simp] at hsm
      have SM := Lib.hid hsm; clear hsm
      dsimp only
      go_wp2_with fail
      refine SM.out.mono ?_
      rintro e w3 ⟨rfl, hb3⟩
      have B3 := Lib.hid (B2.out.chain hb3); have B3w := Lib.hid (B2w.out.chain hb3); clear hb3
      dsimp only
      go_wp2_with (at_builtin; refine wpList_append_opt rfl _ _ 23 rfl w3.heap.size 5 i0 _ 1 1 Tryd.underlying23 hi hz0 hz1 hz2 rfl (by decide) (.slice (some ⟨w3.heap.size, 0, none⟩) 0 0) 0 [] rfl (own_fresh _ _ _ _ (Nat.le_refl _)) Ab L cb (cells (framesL l)) rfl CB.out (NB.out _ (B3.out.alloc B3.out.size _)) (cells_one _) (by unfold maxLen; omega) (by omega) (by simp) ?_)
      intro v4 w4 hown4 hg4 _
      have hb4 : Below w3.heap.size w3 w4 := ((Below.refl _ _).alloc (Nat.le_refl _) _).grown hg4 (by simp) (fun j hj => by have hj2 : some w3.heap.size = some j := hj; injection hj2 with hj2; omega)
      try simp only [Nat.zero_add, List.nil_append] at hown4
      go_wp2_with (at_builtin; refine wpList_append_opt rfl _ _ 23 rfl w3.heap.size 5 i0 _ 1 1 Tryd.underlying23 hi hz0 hz1 hz2 rfl (by decide) _ _ _ rfl hown4 A' m c' (cells more) rfl CM.out (NM.out _ (B3w.out.chain hb4)) (cells_one _) (by unfold maxLen; omega) (by omega) hb4.size ?_)
      intro v5 w5 hown5 hg5 _
      have hb5 : Below w3.heap.size w3 w5 := hb4.grown hg5 hb4.size (fun j hj => (hown4.lt j hj).1)
      have hbuf5 : Buf w5 w3.heap.size v5 ALL := Buf.cut hown5 AL.out.symm AC.out
      have hrd5 := hbuf5.rd.weak
      obtain ⟨A5, c5, rfl⟩ := rdw_form hrd5
      have hs5 := HH.out.split w5 A5 c5 ALL (by have := AL.out; omega) (HR.out.below (B3w.out.chain hb5)) hrd5
      rw [HLL.out, HNN.out] at hs5
      obtain ⟨M, hM⟩ : ∃ M, ALL.length = M := ⟨_, rfl⟩
      rw [hM] at hs5 ⊢
      have S5 := Lib.hid hs5; have B5 := Lib.hid (B3.out.trans (hb5.mono B3.out.size)); have B5w := Lib.hid (B3w.out.chain hb5)
      clear hs5 hbuf5 hown4 hown5 hg4 hg5 hb4 hb5 hrd5 hM
      go_wp2_with fail
      refine S5.out.mono ?_
      rintro e w6 ⟨⟨v6, rfl, hr6⟩, hb6⟩
      have R6 := Lib.hid hr6; have B6 := Lib.hid (B5.out.trans (hb6.mono B5.out.size)); have B6w := Lib.hid (B5w.out.chain hb6); clear hr6 hb6
      dsimp only
      go_wp2_with (at_builtin; refine wpList_append_opt rfl _ _ 23 rfl w6.heap.size 5 i0 _ 1 1 Tryd.underlying23 hi hz0 hz1 hz2 rfl (by decide) (.slice (some ⟨w6.heap.size, 0, none⟩) 0 0) 0 [] rfl (own_fresh _ _ _ _ (Nat.le_refl _)) Ab L cb (cells (framesL l)) rfl CB.out (NB.out _ (B6.out.alloc B6.out.size _)) (cells_one _) (by unfold maxLen; omega) (by omega) (by simp) ?_)
      intro v7 w7 hown7 hg7 _
      have hb7 : Below w6.heap.size w6 w7 := ((Below.refl _ _).alloc (Nat.le_refl _) _).grown hg7 (by simp) (fun j hj => by have hj2 : some w6.heap.size = some j := hj; injection hj2 with hj2; omega)
      try simp only [Nat.zero_add, List.nil_append] at hown7
      go_wp2_with (at_builtin; refine wpList_append_opt rfl _ _ 23 rfl w6.heap.size 5 i0 _ 1 1 Tryd.underlying23 hi hz0 hz1 hz2 rfl (by decide) _ _ _ rfl hown7 A' m c' (cells more) rfl CM.out (NM.out _ (B6w.out.chain hb7)) (cells_one _) (by unfold maxLen; omega) (by omega) hb7.size ?_)
      intro v8 w8 hown8 hg8 _
      have hb8 : Below w6.heap.size w6 w8 := hb7.grown hg8 hb7.size (fun j hj => (hown7.lt j hj).1)
      have hbuf8 : Buf w8 w6.heap.size v8 ALL := Buf.cut hown8 AL.out.symm AC.out
      have hrd8 := hbuf8.rd.weak
      obtain ⟨A8, c8, rfl⟩ := rdw_form hrd8
      have hs8 := refSplit_any A8 c8 ALL (by have := AL.out; omega) w8 hrd8
      rw [HLL.out, HNN.out] at hs8
      obtain ⟨M', hM⟩ : ∃ M, ALL.length = M := ⟨_, rfl⟩
      rw [hM] at hs8 ⊢
      have S8 := Lib.hid hs8; have B8w := Lib.hid (B6w.out.chain hb8); have R8 := Lib.hid (R6.out.below hb8)
      clear hs8 hbuf8 hown7 hown8 hg7 hg8 hb7 hb8 hrd8 hM
      go_wp2_with fail
      refine S8.out.mono ?_
      rintro e w9 ⟨⟨v9, rfl, hr9⟩, hb9⟩
      have R9 := Lib.hid hr9; have R9' := Lib.hid (R8.out.below hb9); have B9w := Lib.hid (B8w.out.chain hb9); clear hr9 hb9
      dsimp only
      go_wp2_with fail
      refine (HA.out _ B9w.out).mono ?_
      rintro e w10 ⟨rfl, hb10⟩
      have hsm2 := same_any v6 v9 LL LL LN.out LN.out w10 (R9'.out.below hb10) (R9.out.below hb10)
      rw [show decide (LL = LL) = true by simp] at hsm2
      have SM2 := Lib.hid hsm2; have B10 := Lib.hid (B9w.out.chain hb10); clear hsm2 hb10
      obtain ⟨A6, c6, rfl⟩ := rdb_form R6.out
      obtain ⟨q, hq⟩ : ∃ q, LL.length = q := ⟨_, rfl⟩
      have hgq : decide ((k : Int) ≤ q) = true := by have := GE.out; simp; omega
      have hkq : k ≤ q := by rw [← hq]; exact GE.out
      have HKQ := Lib.hid hkq
      rw [hq] at SM2 ⊢
      clear hq hkq
      dsimp only
      go_wp2_with fail
      refine SM2.out.mono ?_
      rintro e w11 ⟨rfl, hb11⟩
      have B11 := Lib.hid (B10.out.chain hb11); clear hb11
      dsimp only
      go_wp2
      go_ret
      exact ⟨ret_bool (by have := HKQ.out; simp; omega), B11.out⟩
end Go.Proofs.YtdflghphjhejdaaDoor
