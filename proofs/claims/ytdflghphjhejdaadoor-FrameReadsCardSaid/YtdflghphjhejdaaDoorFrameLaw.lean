/- Layer 11: what the code's frames are to do; what the laws share. -/
import Derived.Test.YtdflghphjhejdaaDoorFrameRefS
import Derived.Test.YtdflghphjhejdaaDoorLaidHash
import Derived.Lib.SlBytesConst
namespace Go.Proofs.YtdflghphjhejdaaDoor
open Go.RowKit
set_option linter.unusedVariables false
set_option linter.unusedSimpArgs false

/-- what the code's frames do -/
structure CodeFrame : Prop where
  frame : ∀ (w : World) (A : Option Addr) (c : Nat) (l : List UInt8), l.length ≤ 100000 → RoundsIn w → RdW w (.slice A l.length c) l → Calls Tryd.prog 8 #[.slice A l.length c] w fun e w' =>
    (∃ v, e = .returned v ∧ RdAt w' v (frameL l) ∧ ∀ g, v.ownBlock = some g → w.heap.size ≤ g) ∧ Below w.heap.size w w'
  split : ∀ (w : World) (A : Option Addr) (c : Nat) (b : List UInt8), b.length ≤ 100000 → RoundsIn w → RdW w (.slice A b.length c) b → Calls Tryd.prog 10 #[.slice A b.length c] w fun e w' =>
    (∃ v, e = .returned (.tuple #[v, .int .i64 ((splitL b).2 : Nat)]) ∧ RdB w' v (splitL b).1) ∧ Below w.heap.size w w'
theorem take_eq_more {α : Type} {a b : List α} {k : Nat} (h : a.take k = b.take k) (ha : k < a.length) (hb : k < b.length) (he : a[k] = b[k]) : a.take (k + 1) = b.take (k + 1) := by
  rw [List.take_succ_eq_append_getElem ha, List.take_succ_eq_append_getElem hb, h, he]
set_option maxRecDepth 100000 in
set_option maxHeartbeats 4000000 in
theorem same_any (v v' : Value) (la lb : List (List UInt8)) (ha : la.length ≤ 1000000) (hb : lb.length ≤ 1000000) (w : World) (h : RdB w v la) (h' : RdB w v' lb) :
    Calls Tryd.prog 11 #[v, v'] w fun e w' => e = .returned (.bool (decide (la = lb))) ∧ Below w.heap.size w w' := by
  have h0 := h
  have h0' := h'
  obtain ⟨A, c, rfl, hc, hA⟩ := h
  obtain ⟨A', c', rfl, hc', hA'⟩ := h'
  by_cases hn : la.length = lb.length
  · obtain ⟨n, hln⟩ : ∃ n, la.length = n := ⟨_, rfl⟩
    have hlb : lb.length = n := by omega
    rw [hln] at ha hc ⊢
    rw [hlb] at hc' ⊢
    obtain ⟨R, hR⟩ : ∃ R, decide (la = lb) = R := ⟨_, rfl⟩
    have hyes : la.take n = lb.take n → R = true := fun e => by
      rw [List.take_of_length_le (by omega), List.take_of_length_le (by omega)] at e
      rw [← hR, e]; simp
    have hno : ∀ k (h1 : k < la.length) (h2 : k < lb.length), la[k] ≠ lb[k] → R = false := fun k h1 h2 e => by
      rw [← hR]
      exact decide_eq_false fun e2 => e (by subst e2; rfl)
    rw [hR]
    have HA := Lib.hid hA; have HA' := Lib.hid hA'; have HY := Lib.hid hyes; have HN := Lib.hid hno; have HL := Lib.hid hln; have HL' := Lib.hid hlb
    clear hA hA' hyes hno hln hlb hR h0 h0' hn hb
    go_enter Tryd.func11, Tryd.ntmps11
    go_wp2
    go_loopw [5] (fun i W => ∃ k : Nat, k ≤ n ∧ i = .int .i64 k ∧ Hid (la.take k = lb.take k ∧ Below w.heap.size w W)) (fun i _ => n - (intOf i).toNat)
    case atStart => exact ⟨0, Nat.zero_le _, rfl, Lib.hid ⟨rfl, Below.refl _ _⟩⟩
    case round =>
      obtain ⟨k, hk, rfl, hT⟩ := hrel
      by_cases hlt : k < n
      · have hkr : decide ((k : Int) < n) = true := by simp; omega
        have hk0 : (0 : Int) ≤ k := by omega
        have hk1 : (k : Int) < n := by omega
        have hka : k < la.length := by rw [HL.out]; exact hlt
        have hkb : k < lb.length := by rw [HL'.out]; exact hlt
        obtain ⟨g, o, u, rfl, hg, hu, hr⟩ := HA.out k la[k] (List.getElem?_eq_getElem hka)
        obtain ⟨g', o', u', rfl, hg', hu', hr'⟩ := HA'.out k lb[k] (List.getElem?_eq_getElem hkb)
        have hr2 := hr.keep hT.out.2.size fun x hx => hT.out.2.block x (hr.lt hx)
        have hr2' := hr'.keep hT.out.2.size fun x hx => hT.out.2.block x (hr'.lt hx)
        have c1 : wr.cell? ⟨g, o + k, none⟩ = some u := (World.cell?_of_block (hT.out.2.block g hg)).trans hu
        have c2 : wr.cell? ⟨g', o' + k, none⟩ = some u' := (World.cell?_of_block (hT.out.2.block g' hg')).trans hu'
        have t1 := (hr2.below ((Below.refl wr.heap.size wr).drew)).text
        have t2 := (hr2'.below ((Below.refl wr.heap.size wr).drew)).text
        have hgw : g < wr.heap.size := Nat.lt_of_lt_of_le hg hT.out.2.size
        obtain ⟨a1, k1, rfl⟩ := rdw_form hr
        obtain ⟨a2, k2, rfl⟩ := rdw_form hr'
        obtain ⟨S1, hS1⟩ : ∃ S : ByteArray, S = ⟨la[k].toArray⟩ := ⟨_, rfl⟩
        obtain ⟨S2, hS2⟩ : ∃ S : ByteArray, S = ⟨lb[k].toArray⟩ := ⟨_, rfl⟩
        rw [← hS1] at t1
        rw [← hS2] at t2
        have hne : (!S1.toList == S2.toList) = !decide (la[k] = lb[k]) := by
          rw [hS1, hS2, ByteArray.toList_eq, ByteArray.toList_eq]
          show (!la[k] == lb[k]) = _
          by_cases h : la[k] = lb[k] <;> simp [h]
        obtain ⟨n1, hn1⟩ : ∃ n1, la[k].length = n1 := ⟨_, rfl⟩
        obtain ⟨n2, hn2⟩ : ∃ n2, lb[k].length = n2 := ⟨_, rfl⟩
        rw [hn1] at t1 c1
        rw [hn2] at t2 c2
        by_cases heq : la[k] = lb[k]
        · have hx : (!S1.toList == S2.toList) = false := by rw [hne, decide_eq_true heq]; rfl
          have hmore := take_eq_more hT.out.1 hka hkb heq
          have HM := Lib.hid hmore
          clear hne hmore hr hr' hr2 hr2' hu hu' hS1 hS2 hn1 hn2 heq hka hkb hg hg'
          go_upto_region 6 with fail
          go_region_held3 (fun W => W.cell? ⟨g, o + k, none⟩ = some (.slice a1 n1 k1) ∧ W.cell? ⟨g', o' + k, none⟩ = some (.slice a2 n2 k2) ∧ (convert 23 9 (.slice a1 n1 k1)).run Tryd.prog W = .ok (.string S1) W ∧ (convert 23 9 (.slice a2 n2 k2)).run Tryd.prog W = .ok (.string S2) W) (exact ⟨c1, c2, t1, t2⟩) (fail)
          go_wp2
          go_roundw
          case rel => exact ⟨k + 1, by omega, by go_num, Lib.hid ⟨HM.out, hT.out.2.drew⟩⟩
          case measure => simp [intOf]; omega
        · have hx : (!S1.toList == S2.toList) = true := by rw [hne, decide_eq_false heq]; rfl
          have hfin := HN.out k hka hkb heq
          have HF := Lib.hid hfin
          clear hne hfin hr hr' hr2 hr2' hu hu' hS1 hS2 hn1 hn2 heq hka hkb hg hg'
          go_upto_region 6 with fail
          go_region_held3 (fun W => W.cell? ⟨g, o + k, none⟩ = some (.slice a1 n1 k1) ∧ W.cell? ⟨g', o' + k, none⟩ = some (.slice a2 n2 k2) ∧ (convert 23 9 (.slice a1 n1 k1)).run Tryd.prog W = .ok (.string S1) W ∧ (convert 23 9 (.slice a2 n2 k2)).run Tryd.prog W = .ok (.string S2) W) (exact ⟨c1, c2, t1, t2⟩) (fail)
          go_wp2
          go_ret
          exact ⟨ret_bool HF.out.symm, hT.out.2.drew⟩
      · obtain rfl : k = n := by omega
        have hkr : decide ((k : Int) < k) = false := by simp
        have hfin := HY.out hT.out.1
        have HF := Lib.hid hfin
        clear hfin
        go_wp2
        go_ret
        exact ⟨ret_bool HF.out.symm, hT.out.2⟩
  · have hne : decide (la = lb) = false := decide_eq_false fun e => hn (by rw [e])
    have HNE := Lib.hid hne
    obtain ⟨n, hln⟩ : ∃ n, la.length = n := ⟨_, rfl⟩
    obtain ⟨m, hlm⟩ : ∃ n, lb.length = n := ⟨_, rfl⟩
    rw [hln, hlm]
    have hd : (!(n : Int) == m) = true := by simp; omega
    clear hne hA hA' h0 h0' hc hc'
    go_enter Tryd.func11, Tryd.ntmps11
    go_wp2
    go_ret
    exact ⟨ret_bool HNE.out.symm, Below.refl _ _⟩
theorem splitHi : splitL (frameL [104, 105]) = ([[104, 105]], 10) := by
  have h := split_whole [[104, 105]] (fun b hb => by rw [List.mem_singleton] at hb; subst hb; decide)
  have e : framesL [[104, 105]] = frameL [104, 105] := by rw [framesL_cons, framesL_nil, List.append_nil]
  rw [e, frameL_len] at h
  exact h
set_option maxRecDepth 100000 in
set_option maxHeartbeats 4000000 in
theorem answers11_any (H : CodeFrame) (w : World) (hr : RoundsIn w) : Calls Tryd.prog 7 #[] w fun e w' => e = .returned (.bool true) ∧ Below w.heap.size w w' := by
  obtain ⟨W1, hW1⟩ : ∃ W1, W1 = w.alloc (.cells #[.int .u8 104, .int .u8 105] 5 (2, 3)) := ⟨_, rfl⟩
  have b1 : Below w.heap.size w W1 := by rw [hW1]; exact (Below.refl w.heap.size w).alloc (Nat.le_refl _) _
  have k1 : W1.heap[w.heap.size]? = some (.cells #[.int .u8 104, .int .u8 105] 5 (2, 3)) := by rw [hW1]; exact heap_alloc_last w _
  have r1 : RdW W1 (.slice (some ⟨w.heap.size, 0, none⟩) 2 2) [104, 105] := RdAt.weak ⟨_, 2, rfl, Nat.le_refl _, by decide, .inr ⟨w.heap.size, 0, rfl, (Array.getElem?_eq_some_iff.1 k1).1, fun j u hu => by
    rw [Addr.add_lit, Nat.zero_add, cell_here k1]; simpa [cells] using hu⟩⟩
  have hf := H.frame W1 (some ⟨w.heap.size, 0, none⟩) 2 [104, 105] (by decide) (hr.below b1) r1
  have hcv := fun (w : World) (C : Array Value) (n c : Nat) => Lib.run_convert_bytes_const (P := Tryd.prog) w 23 5 C n c Tryd.underlying23 Tryd.underlying5
  have HF := Lib.hid hf; have HW1 := Lib.hid hW1; have B1 := Lib.hid b1; have HR := Lib.hid hr; have HH := Lib.hid H
  clear hf hW1 b1 k1 r1 hr H
  go_enter Tryd.func7, Tryd.ntmps7
  go_wp2_with fail
  clear hcv
  change Calls _ _ _ (w.alloc (.cells #[.int .u8 104, .int .u8 105] 5 (2, 3))) _
  rw [← HW1.out]
  refine HF.out.mono ?_
  rintro e w2 ⟨⟨v, rfl, hrd, _⟩, hb2⟩
  have B2 := Lib.hid (B1.out.chain hb2)
  obtain ⟨A2, c2, rfl⟩ := rdw_form hrd.weak
  have hs := HH.out.split w2 A2 c2 (frameL [104, 105]) (by rw [frameL_len]; decide) (HR.out.below B2.out) hrd.weak
  rw [splitHi] at hs
  obtain ⟨FV, hFV⟩ : ∃ F, F = Value.slice A2 (frameL [104, 105]).length c2 := ⟨_, rfl⟩
  rw [← hFV] at hs ⊢
  have HS := Lib.hid hs
  clear hs hb2 hrd hFV
  dsimp only
  go_wp2_with fail
  refine HS.out.mono ?_
  rintro e w3 ⟨⟨v, rfl, hrb⟩, hb3⟩
  have B3 := Lib.hid (B2.out.chain hb3); clear hb3
  obtain ⟨A3, c3, rfl, hc3, hA3⟩ := hrb
  obtain ⟨g, o, u, rfl, hg, hu, hr⟩ := hA3 0 [104, 105] rfl
  have ht : ∀ W, Below w3.heap.size w3 W → (convert 23 9 u).run Tryd.prog W = .ok (.string ⟨#[104, 105]⟩) W := fun W hb => (hr.below hb).text
  have h1 : 1 ≤ c3 := hc3
  have t3 := ht w3 (Below.refl _ _)
  obtain ⟨a4, c4, rfl⟩ := rdw_form hr
  have t4 : (convert 23 9 (.slice a4 2 c4)).run Tryd.prog w3 = .ok (.string ⟨#[104, 105]⟩) w3 := t3
  clear t3
  rw [Nat.add_zero] at hu
  clear hA3 hr ht hc3
  dsimp only
  go_wp2
  go_ret
  exact ⟨rfl, B3.out⟩
set_option maxRecDepth 100000 in
set_option maxHeartbeats 4000000 in
theorem frameReads_at (H : CodeFrame) (A : Option Addr) (c : Nat) (b : List UInt8) {w : World} (h : RdAt w (.slice A b.length c) b) (hr : RoundsIn w) :
    Calls Tryd.prog 4 #[.slice A b.length c] w fun e w' => e = .returned (.bool true) ∧ Below w.heap.size w w' := by
  have hans := fun W (hb : Below w.heap.size w W) => answers11_any H W (hr.below hb)
  have HA := Lib.hid hans; clear hans
  obtain ⟨n, hn⟩ : ∃ n, b.length = n := ⟨_, rfl⟩
  by_cases h5 : 5000 < n
  · rw [hn]
    have d1 : decide ((5000 : Int) < n) = true := by simp; omega
    clear hn h hr h5 H
    go_enter Tryd.func4, Tryd.ntmps4
    go_wp2_with fail
    refine (HA.out _ (Below.refl _ _)).mono ?_
    rintro e w1 ⟨rfl, hb1⟩
    have B1 := Lib.hid hb1; clear hb1
    dsimp only
    go_wp2
    go_ret
    exact ⟨rfl, B1.out⟩
  have d1 : decide ((5000 : Int) < n) = false := by simp; omega
  have hs := H.split w A c b (by omega) hr h.weak
  have hs2 := fun W (hb : Below w.heap.size w W) => refSplit_any A c b (by omega) W (h.below hb).weak
  obtain ⟨L, hL⟩ : ∃ L, (splitL b).1 = L := ⟨_, rfl⟩
  obtain ⟨N, hN⟩ : ∃ N, (splitL b).2 = N := ⟨_, rfl⟩
  have hLn : L.length ≤ 1000000 := by rw [← hL]; exact Nat.le_trans (splitL_few b) (by omega)
  rw [hL, hN, hn] at hs
  simp only [hL, hN, hn] at hs2
  rw [hn]
  have HS := Lib.hid hs; have HS2 := Lib.hid hs2
  clear hs hs2 hL hN h hr hn H h5
  go_enter Tryd.func4, Tryd.ntmps4
  go_wp2_with fail
  refine HS.out.mono ?_
  rintro e w1 ⟨⟨v1, rfl, hr1⟩, hb1⟩
  have B1 := Lib.hid hb1; clear hb1
  have R1 := Lib.hid hr1; clear hr1
  dsimp only
  go_wp2_with fail
  refine (HS2.out _ B1.out).mono ?_
  rintro e w2 ⟨⟨v2, rfl, hr2⟩, hb2⟩
  have R1' := Lib.hid (R1.out.below hb2); have R2 := Lib.hid hr2
  have B2 := Lib.hid (B1.out.chain hb2); clear hb2 hr2
  dsimp only
  go_wp2_with fail
  refine (HA.out _ B2.out).mono ?_
  rintro e w3 ⟨rfl, hb3⟩
  have R1'' := Lib.hid (R1'.out.below hb3); have R2' := Lib.hid (R2.out.below hb3)
  have B3 := Lib.hid (B2.out.chain hb3); clear hb3
  have hsm := same_any v1 v2 L L hLn hLn w3 R1''.out R2'.out
  have HSM := Lib.hid hsm; clear hsm
  dsimp only
  go_wp2_with fail
  refine HSM.out.mono ?_
  rintro e w4 ⟨rfl, hb4⟩
  have B4 := Lib.hid (B3.out.chain hb4); clear hb4
  have e1 : decide (L = L) = true := by simp
  have e2 : ((N : Int) == N) = true := by simp
  dsimp only
  go_wp2
  go_ret
  exact ⟨ret_bool (by simp), B4.out⟩
end Go.Proofs.YtdflghphjhejdaaDoor
