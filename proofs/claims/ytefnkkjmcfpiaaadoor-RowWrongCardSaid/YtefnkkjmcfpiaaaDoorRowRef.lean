/- The reference's Texts and Split (layer 13). -/
import Derived.Test.YtefnkkjmcfpiaaaDoorRowVals
import Derived.Test.YtefnkkjmcfpiaaaDoorHeldMore
import Derived.Test.YtefnkkjmcfpiaaaDoorJsonDec
import Derived.Deep.RegionLaw
import Derived.Deep.RegionWith
import Derived.Deep.Cut
namespace Go.Proofs.YtefnkkjmcfpiaaaDoor
open Go.RowKit
set_option linter.unusedVariables false
set_option linter.unusedSimpArgs false

theorem w64 (n : Int) (h : -9223372036854775808 ≤ n ∧ n ≤ 9223372036854775807) : wrap64 n = n := by unfold wrap64; omega
set_option maxRecDepth 100000 in
set_option maxHeartbeats 4000000 in
theorem refTexts13_any (A : Option Addr) (c : Nat) (l : List (List UInt8)) (hl : (textsL l).length ≤ 1000000000) (w : World) (h : RdT w (.slice A l.length c) l) :
    Calls Tryd.prog 14 #[.slice A l.length c] w fun e w' => e = .returned (tv (textsL l)) ∧ Below w.heap.size w w' := by
  obtain ⟨n, hn⟩ : ∃ n, l.length = n := ⟨_, rfl⟩
  have hpre : ∀ k, (textsL (l.take k)).length ≤ (textsL l).length := fun k => by
    have e : textsL l = textsL (l.take k) ++ textsL (l.drop k) := by rw [← textsL_app, List.take_append_drop]
    rw [e, List.length_append]; omega
  have hnl : n ≤ 1000000000 := by have := textsL_len l; omega
  have HRD := Lib.hid h; have HN := Lib.hid hn; have HPRE := Lib.hid hpre; have HL := Lib.hid hl
  rw [hn]
  clear h hn hpre hl
  go_enter Tryd.func14, Tryd.ntmps14
  go_wp2
  go_loopw [3, 4] (fun v i W => ∃ k : Nat, k ≤ n ∧ i = .int .i64 k ∧ v = tv (textsL (l.take k)) ∧ Hid (Below w.heap.size w W)) (fun _ i _ => n - (intOf i).toNat)
  case atStart => exact ⟨0, Nat.zero_le _, rfl, rfl, Lib.hid (Below.refl _ _)⟩
  case round =>
    obtain ⟨k, hk, rfl, rfl, hT⟩ := hrel
    by_cases hlt : k < n
    · have hkr : decide ((k : Int) < n) = true := by simp; omega
      have hk0 : (0 : Int) ≤ k := by omega
      have hk1 : (k : Int) < n := by omega
      have hkn : k < n := hlt
      have hkl : k < l.length := by rw [HN.out]; exact hlt
      obtain ⟨g, o, rfl, hg, c1⟩ := (HRD.out.below hT.out).at k hkl
      obtain ⟨x, hx⟩ : ∃ x, l[k] = x := ⟨_, rfl⟩
      have hst : textsL (l.take (k + 1)) = textsL (l.take k) ++ (decL x.length ++ 58 :: x) := by
        rw [List.take_succ_eq_append_getElem hkl, hx, textsL_snoc]
      rw [hx] at c1
      unfold tv at c1
      obtain ⟨X, hX⟩ : ∃ S : ByteArray, S = ⟨x.toArray⟩ := ⟨_, rfl⟩
      have hXs : X.size = x.length := by rw [hX]; show x.toArray.size = _; simp
      have hcx : ∀ W, Below wr.heap.size wr W → W.cell? ⟨g, o + k, none⟩ = some (.string X) := fun W hb => by
        rw [hX]; exact (World.cell?_of_block (hb.block g hg)).trans c1
      have hb1 := HPRE.out (k + 1)
      rw [hst, List.length_append, List.length_append, List.length_cons] at hb1
      have hL := HL.out
      have hdec := fun W => refDec_any (x.length : Int) ⟨by omega, by omega⟩ W
      have hdi : decI (x.length : Int) = decL x.length := by unfold decI; rw [if_neg (by omega)]; rfl
      rw [hdi] at hdec
      obtain ⟨O, hO⟩ : ∃ S : ByteArray, S = ⟨(textsL (l.take k)).toArray⟩ := ⟨_, rfl⟩
      obtain ⟨D, hD⟩ : ∃ S : ByteArray, S = ⟨(decL x.length).toArray⟩ := ⟨_, rfl⟩
      have hOs : O.size = (textsL (l.take k)).length := by rw [hO]; show Array.size _ = _; simp
      have hDs : D.size = (decL x.length).length := by rw [hD]; show Array.size _ = _; simp
      have hC1 : (⟨#[58]⟩ : ByteArray).size = 1 := rfl
      have s1 := fun W => run_string_add_sum (P := Tryd.prog) W O D (by omega)
      obtain ⟨O1, hO1⟩ : ∃ S, S = O ++ D := ⟨_, rfl⟩
      rw [← hO1] at s1
      have hO1s : O1.size = O.size + D.size := by rw [hO1]; exact ByteArray.size_append
      have s2 := fun W => run_string_add_sum (P := Tryd.prog) W O1 ⟨#[58]⟩ (by omega)
      obtain ⟨O2, hO2⟩ : ∃ S, S = O1 ++ ⟨#[58]⟩ := ⟨_, rfl⟩
      rw [← hO2] at s2
      have hO2s : O2.size = O1.size + 1 := by rw [hO2]; exact ByteArray.size_append
      have s3 := fun W => run_string_add_sum (P := Tryd.prog) W O2 X (by omega)
      obtain ⟨O3, hO3⟩ : ∃ S, S = O2 ++ X := ⟨_, rfl⟩
      rw [← hO3] at s3
      have hfin : Value.string O3 = tv (textsL (l.take (k + 1))) := by
        unfold tv
        rw [hst, hO3, hO2, hO1, hO, hD, hX]
        congr 1
        apply ByteArray.ext
        simp [ByteArray.data_append]
      rw [← hD] at hdec
      rw [hXs.symm] at hdec
      have HFIN := Lib.hid hfin; have DEC := Lib.hid hdec; have CX := Lib.hid hcx
      unfold tv
      rw [← hO]
      clear hst hcx hb1 hdec hdi hO hD hOs hDs hC1 hO1 hO1s hO2 hO2s hO3 hfin hX hXs hkl hg hx
      go_upto_region 5 with fail
      refine wp_region_held_drew (S := (fun W => W.cell? ⟨g, o + k, none⟩ = some (.string X))) (by kernel_rfl) (CX.out _ (Below.refl _ _).drew) (fun hHeld => ?_)
      refine wpAnyH_take (i := 0) (oi := _) (v := ?v1) (by simp only [List.getElem?_toArray, List.getElem?_cons_succ, List.getElem?_cons_zero]; rfl) (by kernel_rfl) (by kernel_rfl) (by kernel_rfl) (by exact fun _ _ _ h => h) (Or.inl ⟨by rfl, ?hy1⟩) (by assumption) ?rest1
      case hy1 => (intro w hSw; (try dsimp only at hSw); go_simp; try with_reducible rfl)
      try simp only [Act.put, List.setIfInBounds_toArray, List.set_cons_zero, List.set_cons_succ]
      refine wpAnyH_take (i := 1) (oi := _) (v := ?v2) (by simp only [List.getElem?_toArray, List.getElem?_cons_succ, List.getElem?_cons_zero]; rfl) (by kernel_rfl) (by kernel_rfl) (by kernel_rfl) (by exact fun _ _ _ h => h) (Or.inl ⟨by rfl, ?hy2⟩) (by assumption) ?rest2
      case hy2 => (intro w hSw; (try dsimp only at hSw); go_simp; try with_reducible rfl)
      try simp only [Act.put, List.setIfInBounds_toArray, List.set_cons_zero, List.set_cons_succ]
      refine wpAnyH_take (i := 2) (oi := _) (v := ?v3) (by simp only [List.getElem?_toArray, List.getElem?_cons_succ, List.getElem?_cons_zero]; rfl) (by kernel_rfl) (by kernel_rfl) (by kernel_rfl) (by exact fun _ _ _ h => h) (Or.inl ⟨by rfl, ?hy3⟩) (by assumption) ?rest3
      case hy3 => (intro w hSw; (try dsimp only at hSw); go_simp; try with_reducible rfl)
      try simp only [Act.put, List.setIfInBounds_toArray, List.set_cons_zero, List.set_cons_succ]
      refine wpAnyH_take (i := 3) (oi := _) (v := ?v4) (by simp only [List.getElem?_toArray, List.getElem?_cons_succ, List.getElem?_cons_zero]; rfl) (by kernel_rfl) (by kernel_rfl) (by kernel_rfl) (by exact fun _ _ _ h => h) (Or.inl ⟨by rfl, ?hy4⟩) (by assumption) ?rest4
      case hy4 => (intro w hSw; (try dsimp only at hSw); go_simp; try with_reducible rfl)
      try simp only [Act.put, List.setIfInBounds_toArray, List.set_cons_zero, List.set_cons_succ]
      refine wpAnyH_take (i := 4) (oi := _) (v := ?v5) (by simp only [List.getElem?_toArray, List.getElem?_cons_succ, List.getElem?_cons_zero]; rfl) (by kernel_rfl) (by kernel_rfl) (by kernel_rfl) (by exact fun _ _ _ h => h) (Or.inl ⟨by rfl, ?hy5⟩) (by assumption) ?rest5
      case hy5 => (intro w hSw; (try dsimp only at hSw); go_simp; try with_reducible rfl)
      try simp only [Act.put, List.setIfInBounds_toArray, List.set_cons_zero, List.set_cons_succ]
      refine wpAnyH_take (i := 5) (oi := _) (v := ?v6) (by simp only [List.getElem?_toArray, List.getElem?_cons_succ, List.getElem?_cons_zero]; rfl) (by kernel_rfl) (by kernel_rfl) (by kernel_rfl) (by exact fun _ _ _ h => h) (Or.inl ⟨by rfl, ?hy6⟩) (by assumption) ?rest6
      case hy6 => (intro w hSw; (try dsimp only at hSw); go_simp; try with_reducible rfl)
      try simp only [Act.put, List.setIfInBounds_toArray, List.set_cons_zero, List.set_cons_succ]
      refine wpAnyH_take (i := 9) (oi := _) (v := ?v7) (by simp only [List.getElem?_toArray, List.getElem?_cons_succ, List.getElem?_cons_zero]; rfl) (by kernel_rfl) (by kernel_rfl) (by kernel_rfl) (by exact fun _ _ _ h => h) (Or.inl ⟨by rfl, ?hy7⟩) (by assumption) ?rest7
      case hy7 => (intro w hSw; (try dsimp only at hSw); go_simp; try with_reducible rfl)
      try simp only [Act.put, List.setIfInBounds_toArray, List.set_cons_zero, List.set_cons_succ]
      refine wpAnyH_take (i := 10) (oi := _) (v := ?v8) (by simp only [List.getElem?_toArray, List.getElem?_cons_succ, List.getElem?_cons_zero]; rfl) (by kernel_rfl) (by kernel_rfl) (by kernel_rfl) (by exact fun _ _ _ h => h) (Or.inl ⟨by rfl, ?hy8⟩) (by assumption) ?rest8
      case hy8 => (intro w hSw; (try dsimp only at hSw); go_simp; try with_reducible rfl)
      try simp only [Act.put, List.setIfInBounds_toArray, List.set_cons_zero, List.set_cons_succ]
      refine wpAnyH_take (i := 11) (oi := _) (v := ?v9) (by simp only [List.getElem?_toArray, List.getElem?_cons_succ, List.getElem?_cons_zero]; rfl) (by kernel_rfl) (by kernel_rfl) (by kernel_rfl) (by exact fun _ _ _ h => h) (Or.inl ⟨by rfl, ?hy9⟩) (by assumption) ?rest9
      case hy9 => (intro w hSw; (try dsimp only at hSw); go_simp; try with_reducible rfl)
      try simp only [Act.put, List.setIfInBounds_toArray, List.set_cons_zero, List.set_cons_succ]
      refine wpAnyH_take (i := 12) (oi := _) (v := ?v10) (by simp only [List.getElem?_toArray, List.getElem?_cons_succ, List.getElem?_cons_zero]; rfl) (by kernel_rfl) (by kernel_rfl) (by kernel_rfl) (by exact fun _ _ _ h => h) (Or.inl ⟨by rfl, ?hy10⟩) (by assumption) ?rest10
      case hy10 => (intro w hSw; (try dsimp only at hSw); go_simp; try with_reducible rfl)
      try simp only [Act.put, List.setIfInBounds_toArray, List.set_cons_zero, List.set_cons_succ]
      refine wpAnyH_ready (rs := [6]) (by kernel_rfl) (by simp) ?_
      refine AllReadyH.cons (o := _) (by simp only [List.getElem?_toArray, List.getElem?_cons_succ, List.getElem?_cons_zero]; rfl) (fun K hK => ?_) AllReadyH.nil
      go_simp
      go_at_call 33
      (with_reducible refine (DEC.out _).mono ?_)
      rintro e w1 ⟨rfl, hb1⟩
      have B1 := Lib.hid ((Below.refl wr.heap.size wr).drew.chain hb1); clear hb1
      dsimp only
      refine hK.out _ _ (CX.out _ B1.out) (fun hHeld => ?_)
      clear hK K
      try simp only [Act.put, List.setIfInBounds_toArray, List.set_cons_zero, List.set_cons_succ]
      refine wpAnyH_take (i := 7) (oi := _) (v := ?v12) (by simp only [List.getElem?_toArray, List.getElem?_cons_succ, List.getElem?_cons_zero]; rfl) (by kernel_rfl) (by kernel_rfl) (by kernel_rfl) (by exact fun _ _ _ h => h) (Or.inl ⟨by rfl, ?hy12⟩) (by assumption) ?rest12
      case hy12 => (intro w hSw; (try dsimp only at hSw); go_simp; try with_reducible rfl)
      try simp only [Act.put, List.setIfInBounds_toArray, List.set_cons_zero, List.set_cons_succ]
      refine wpAnyH_take (i := 8) (oi := _) (v := ?v13) (by simp only [List.getElem?_toArray, List.getElem?_cons_succ, List.getElem?_cons_zero]; rfl) (by kernel_rfl) (by kernel_rfl) (by kernel_rfl) (by exact fun _ _ _ h => h) (Or.inl ⟨by rfl, ?hy13⟩) (by assumption) ?rest13
      case hy13 => (intro w hSw; (try dsimp only at hSw); go_simp; try with_reducible rfl)
      try simp only [Act.put, List.setIfInBounds_toArray, List.set_cons_zero, List.set_cons_succ]
      refine wpAnyH_take (i := 13) (oi := _) (v := ?v14) (by simp only [List.getElem?_toArray, List.getElem?_cons_succ, List.getElem?_cons_zero]; rfl) (by kernel_rfl) (by kernel_rfl) (by kernel_rfl) (by exact fun _ _ _ h => h) (Or.inl ⟨by rfl, ?hy14⟩) (by assumption) ?rest14
      case hy14 => (intro w hSw; (try dsimp only at hSw); go_simp; try with_reducible rfl)
      try simp only [Act.put, List.setIfInBounds_toArray, List.set_cons_zero, List.set_cons_succ]
      refine wpAnyH_take (i := 14) (oi := _) (v := ?v15) (by simp only [List.getElem?_toArray, List.getElem?_cons_succ, List.getElem?_cons_zero]; rfl) (by kernel_rfl) (by kernel_rfl) (by kernel_rfl) (by exact fun _ _ _ h => h) (Or.inl ⟨by rfl, ?hy15⟩) (by assumption) ?rest15
      case hy15 => (intro w hSw; (try dsimp only at hSw); go_simp; try with_reducible rfl)
      try simp only [Act.put, List.setIfInBounds_toArray, List.set_cons_zero, List.set_cons_succ]
      refine wpAnyH_done (by kernel_rfl) ?_ _
      have B2 := Lib.hid (hT.out.chain B1.out)
      clear hHeld s1 s2 s3
      go_wp2
      go_roundw
      case rel => exact ⟨k + 1, by omega, by go_num, by rw [HFIN.out]; rfl, B2.out⟩
      case measure => simp [intOf]; omega
    · obtain rfl : k = n := by omega
      have hkr : decide ((k : Int) < k) = false := by simp
      have htk : l.take k = l := List.take_of_length_le (by rw [HN.out]; exact Nat.le_refl _)
      rw [htk]
      clear htk
      go_wp2
      go_ret
      exact ⟨rfl, hT.out⟩
/-- what the reference's Split answers -/
def SplitIs (w : World) (s : List UInt8) (e : Ending) : Prop := (∃ l v, s = textsL l ∧ e = .returned (.tuple #[v, .bool true]) ∧ RdT w v l) ∨ ((∀ l, s ≠ textsL l) ∧ e = .returned (.tuple #[.slice none 0 0, .bool false]))
theorem SplitIs.no {w : World} {s : List UInt8} (h : ∀ l, s ≠ textsL l) : SplitIs w s (.returned (.tuple #[.slice none 0 0, .bool false])) := .inr ⟨h, rfl⟩
set_option maxRecDepth 100000 in
set_option maxHeartbeats 8000000 in
theorem refSplit13_any (s : ByteArray) (hs : s.size ≤ 1000000) (w : World) :
    Calls Tryd.prog 16 #[.string s] w fun e w' => SplitIs w' s.data.toList e ∧ Below w.heap.size w w' := by
  obtain ⟨i0, hi, hz0, hz1, hz2⟩ := info_parts Tryd.infoStrK
  obtain ⟨m, hm⟩ : ∃ m, s.size = m := ⟨_, rfl⟩
  obtain ⟨L, hL⟩ : ∃ L, s.data.toList = L := ⟨_, rfl⟩
  have hLm : L.length = m := by rw [← hL, ← hm]; rfl
  have hix : ∀ (i : Nat) (c : UInt8) (W : World), L[i]? = some c → (Instr.index 9 (.string s) (.int .i64 (i : Int))).run Tryd.prog W = .ok (.int .u8 (c.toNat : Int)) W := fun i c W hc => by
    have hi' : i < s.size := by rw [hm, ← hLm]; exact (List.getElem?_eq_some_iff.1 hc).1
    rw [run_index_string (P := Tryd.prog) (w := W) 9 s .i64 (i : Int) Tryd.underlying9, dif_pos ⟨by omega, by omega⟩]
    have he : L[i]? = some s[i] := by subst hL; show s.data.toList[i]? = some s.data[i]; simp
    rw [hc] at he
    injection he with he
    simp [he]
  have hsb : ∀ a b, a ≤ b → b ≤ m → Value.string (s.extract a b) = tv ((L.drop a).take (b - a)) := fun a b h1 h2 => by
    unfold tv
    congr 1
    apply ByteArray.ext
    apply Array.ext'
    rw [← hL, ByteArray.data_extract]
    simp [List.take_drop, Array.toList_extract, Nat.add_sub_cancel' h1]
  rw [hL]
  have HIX := Lib.hid hix; have HLM := Lib.hid hLm; have HSB := Lib.hid hsb; have HM := Lib.hid hm
  rw [hm] at hs
  have hsz : (s.size : Int) = m := by rw [hm]
  clear hix hLm hsb hL hm
  go_enter Tryd.func16, Tryd.ntmps16
  go_wp2
  go_loopw [4, 5] (fun out i W => ∃ (k : Nat) (pre : List (List UInt8)), k ≤ m ∧ i = .int .i64 k ∧ Hid (TRow W w.heap.size out pre ∧ pre.length ≤ k ∧ L = textsL pre ++ L.drop k ∧ Below w.heap.size w W)) (fun _ i _ => m - (intOf i).toNat)
  case atStart => exact ⟨0, [], Nat.zero_le _, rfl, Lib.hid ⟨World.ownsRow_nil _ _ _ _, Nat.le_refl _, by simp [textsL_nil], Below.refl _ _⟩⟩
  case round =>
    obtain ⟨i, pre, hk, rfl, hT⟩ := hrel
    by_cases hlt : i < m
    · have hkr : decide ((i : Int) < m) = true := by simp; omega
      go_wp2
      go_loopw [6, 7] (fun n k W => ∃ j q : Nat, i ≤ j ∧ j ≤ m ∧ n = .int .i64 q ∧ k = .int .i64 j ∧ W = wr ∧ Hid (q = dval ((L.drop i).take (j - i)) ∧ (∀ c ∈ (L.drop i).take (j - i), isDigit c = true) ∧ q ≤ 10995116277769)) (fun _ k _ => m - (intOf k).toNat)
      case atStart => exact ⟨i, 0, Nat.le_refl _, hk, rfl, rfl, rfl, Lib.hid ⟨by simp [dval_nil], by simp, by decide⟩⟩
      case round =>
        obtain ⟨j, q, hij, hjm, rfl, rfl, rfl, hR⟩ := hrel
        have hno : (∀ l', L.drop i = textsL l' → False) → ∀ l, L ≠ textsL l := fun h l e => by
          obtain ⟨l', -, h2⟩ := textsL_pre pre l (L.drop i) (hT.out.2.2.1.symm.trans e)
          exact h l' h2
        by_cases hjlt : j < m
        · have hjr : decide ((j : Int) < m) = true := by simp; omega
          obtain ⟨c, hc⟩ : ∃ c, L[j]? = some c := by
            have := HLM.out
            exact ⟨L[j]'(by omega), List.getElem?_eq_getElem (by omega)⟩
          have hxj := fun W => HIX.out j c W hc
          have hcd : (L.drop i)[j - i]? = some c := by rw [List.getElem?_drop, show i + (j - i) = j by omega]; exact hc
          have htk : (L.drop i).take (j + 1 - i) = (L.drop i).take (j - i) ++ [c] := by
            rw [show j + 1 - i = (j - i) + 1 by omega, List.take_add_one, hcd]; rfl
          obtain ⟨c0, hc0⟩ : ∃ c, L[i]? = some c := by
            have := HLM.out
            exact ⟨L[i]'(by omega), List.getElem?_eq_getElem (by omega)⟩
          obtain ⟨c0n, hc0n⟩ : ∃ n : Int, (c0.toNat : Int) = n := ⟨_, rfl⟩
          have hxi := fun W => HIX.out i c0 W hc0
          rw [hc0n] at hxi
          have hh0 : (L.drop i).head? = some c0 := by rw [List.head?_drop]; exact hc0
          have HXI := Lib.hid hxi; have HC0 := Lib.hid hh0; have HC0N := Lib.hid hc0n; have HTK := Lib.hid htk
          have HCD := Lib.hid hcd
          have HLT := Lib.hid hjlt
          clear hc hcd htk hc0 hxi hh0 hc0n
          by_cases hd : isDigit c = true
          · have hcv := isDigit_val hd
            have g1 : decide (48 ≤ (c.toNat : Int)) = true := by simp; omega
            have g2 : decide ((c.toNat : Int) ≤ 57) = true := by simp; omega
            by_cases hq : q < 1099511627776
            · have g3 : decide ((q : Int) < 1099511627776) = true := by simp; omega
              obtain ⟨cn, hcn⟩ : ∃ n : Int, (c.toNat : Int) = n := ⟨_, rfl⟩
              have hcv' : 48 ≤ cn ∧ cn ≤ 57 := by omega
              rw [hcn] at hxj g1 g2
              clear hcv
              have hcv := hcv'
              clear hcv'
              have g4 : IntKind.u8.wrap (cn - 48) = cn - 48 := by rw [IntKind.wrap_u8]; omega
              have hw : wrap64 (wrap64 ((q : Int) * 10) + wrap64 (cn - 48)) = ((q * 10 + (cn - 48).toNat : Nat) : Int) := by
                rw [w64 (cn - 48) (by omega), w64 ((q : Int) * 10) (by omega), w64 ((q : Int) * 10 + (cn - 48)) (by omega)]; omega
              have HW := Lib.hid hw; clear hw
              have HD := Lib.hid hd; have HQ := Lib.hid hq; have HCN := Lib.hid hcn; have HCV := Lib.hid hcv
              clear hd hq hcn hcv
              go_wp2
              refine ⟨⟨j + 1, q * 10 + (cn - 48).toNat, by omega, by omega, int_eq HW.out, by go_num, trivial, Lib.hid ⟨?_, ?_, ?_⟩⟩, by simp [intOf]; omega⟩
              · rw [HTK.out, dval_snoc, ← hR.out.1]; have := HCN.out; omega
              · rw [HTK.out]
                intro x hx
                rcases List.mem_append.1 hx with hx | hx
                · exact hR.out.2.1 x hx
                · rw [List.mem_singleton] at hx; rw [hx]; exact HD.out
              · have h1 := HQ.out
                have h2 := HCV.out
                omega
            · -- too great a number
              have hji : j ≠ i := fun e => hq (by rw [hR.out.1, e]; simp [dval_nil])
              obtain ⟨cn, hcn⟩ : ∃ n : Int, (c.toNat : Int) = n := ⟨_, rfl⟩
              have hcv' : 48 ≤ cn ∧ cn ≤ 57 := by omega
              rw [hcn] at hxj g1 g2
              clear hcv
              have hcv := hcv'
              clear hcv'
              have g3 : decide ((q : Int) < 1099511627776) = false := by simp; omega
              have e1 : ((j : Int) == i) = false := by rw [beq_eq_false_iff_ne]; omega
              have e2 : ¬ m ≤ j := by omega
              have hcn58 : cn ≠ 58 := by omega
              have e3 : ¬ cn = 58 := hcn58
              clear hcn58
              have HNO := Lib.hid (hno fun l' h' => front_great h' (fun e => by rw [e] at HCD; have := HCD.out; simp at this) hR.out.2.1 (by rw [← hR.out.1, List.length_drop, HLM.out]; omega))
              clear hno hq hcv hcn hd hji
              go_wp2
              go_ret2
              exact ⟨SplitIs.no HNO.out, hT.out.2.2.2⟩
          · have hd2 : isDigit c = false := by simpa using hd
            have hcv : c.toNat < 48 ∨ 57 < c.toNat := by
              unfold isDigit at hd2
              have := of_decide_eq_false hd2
              omega
            have hxj0 := HXI.out
            obtain ⟨cn, hcn⟩ : ∃ n : Int, (c.toNat : Int) = n := ⟨_, rfl⟩
            have hcv' : cn < 48 ∨ 57 < cn := by omega
            rw [hcn] at hxj
            clear hcv
            have hcv := hcv'
            clear hcv'
            have HD := Lib.hid hd2; have HCN := Lib.hid hcn
            clear hd hd2 hcn
            by_cases h48 : cn < 48
            · have g1 : decide (48 ≤ cn) = false := by simp; omega
              clear hcv h48
              by_cases hji : j = i
              · subst hji
                have HNO := Lib.hid (hno fun l' h' => (front_stop (p := 0) h' (by have h := HCD.out; rwa [Nat.sub_self] at h) (by simp) HD.out).1 rfl)
                clear hno
                have e1 : ((j : Int) == j) = true := by simp
                clear hxj0
                go_wp2
                go_ret2
                exact ⟨SplitIs.no HNO.out, hT.out.2.2.2⟩
              have e1 : ((j : Int) == i) = false := by rw [beq_eq_false_iff_ne]; omega
              have e2 : ¬ m ≤ j := by omega
              by_cases h58 : c = 58
              case neg =>
                have HNO := Lib.hid (hno fun l' h' => h58 (front_stop h' HCD.out hR.out.2.1 HD.out).2.1)
                clear hno
                have hcn58 : cn ≠ 58 := fun e => h58 (UInt8.toNat_inj.1 (by have := HCN.out; show c.toNat = 58; omega))
                have e3 : ¬ cn = 58 := hcn58
                clear hcn58
                clear hxj0 h58
                go_wp2
                go_ret2
                exact ⟨SplitIs.no HNO.out, hT.out.2.2.2⟩
              have hcn58 : cn = 58 := by have := HCN.out; rw [h58] at this; exact this.symm
              rw [hcn58] at g1
              exact absurd g1 (by decide)
            · have g1 : decide (48 ≤ cn) = true := by simp; omega
              have g2 : decide (cn ≤ 57) = false := by simp; omega
              clear hcv h48
              by_cases hji : j = i
              · subst hji
                have HNO := Lib.hid (hno fun l' h' => (front_stop (p := 0) h' (by have h := HCD.out; rwa [Nat.sub_self] at h) (by simp) HD.out).1 rfl)
                clear hno
                have e1 : ((j : Int) == j) = true := by simp
                clear hxj0
                go_wp2
                go_ret2
                exact ⟨SplitIs.no HNO.out, hT.out.2.2.2⟩
              have e1 : ((j : Int) == i) = false := by rw [beq_eq_false_iff_ne]; omega
              have e2 : ¬ m ≤ j := by omega
              by_cases h58 : c = 58
              case neg =>
                have HNO := Lib.hid (hno fun l' h' => h58 (front_stop h' HCD.out hR.out.2.1 HD.out).2.1)
                clear hno
                have hcn58 : cn ≠ 58 := fun e => h58 (UInt8.toNat_inj.1 (by have := HCN.out; show c.toNat = 58; omega))
                have e3 : ¬ cn = 58 := hcn58
                clear hcn58
                clear hxj0 h58
                go_wp2
                go_ret2
                exact ⟨SplitIs.no HNO.out, hT.out.2.2.2⟩
              have hcn58 : cn = 58 := by have := HCN.out; rw [h58] at this; exact this.symm
              have H58 := Lib.hid h58; clear h58
              clear e2
              have e2 : ¬ m ≤ j := by omega
              have HCN58 := Lib.hid hcn58
              subst hcn58
              by_cases hz : 1 < j - i ∧ c0 = 48
              · obtain ⟨hz1, hz2⟩ := hz
                have HNO := Lib.hid (hno fun l' h' => (front_stop h' HCD.out hR.out.2.1 HD.out).2.2.1 hz1 (by rw [HC0.out, hz2]))
                clear hno
                have e4 : (1 : Int) < (j : Int) - i := by omega
                have hcn48 : c0n = 48 := by have := HC0N.out; rw [hz2] at this; exact this.symm
                clear hxj0
                have hxj0 := HXI.out
                have HC48 := Lib.hid hcn48
                subst hcn48
                clear hz1 hz2
                go_wp2
                go_ret2
                exact ⟨SplitIs.no HNO.out, hT.out.2.2.2⟩
              have HZ := Lib.hid hz; clear hz
              have e45 : (¬ (1 : Int) < (j : Int) - i) ∨ ((1 : Int) < (j : Int) - i ∧ ¬ c0n = 48) := by
                by_cases h1 : 1 < j - i
                · refine .inr ⟨by omega, ?_⟩
                  have h : c0n ≠ 48 := fun e => HZ.out ⟨h1, UInt8.toNat_inj.1 (by have := HC0N.out; show c0.toNat = 48; omega)⟩
                  exact h
                · exact .inl (by omega)
              by_cases hbig : m - j - 1 < q
              · have HNO := Lib.hid (hno fun l' h' => by
                  have h1 := (front_stop h' HCD.out hR.out.2.1 HD.out).2.2.2
                  rw [← hR.out.1, List.length_drop, HLM.out] at h1
                  omega)
                clear hno
                have e6 : (m : Int) - j - 1 < q := by omega
                rcases e45 with e4 | ⟨e4, e5⟩
                · go_wp2
                  go_ret2
                  exact ⟨SplitIs.no HNO.out, hT.out.2.2.2⟩
                · go_wp2
                  go_ret2
                  exact ⟨SplitIs.no HNO.out, hT.out.2.2.2⟩
              have e6 : ¬ (m : Int) - j - 1 < q := by omega
              have hqm : j + 1 + q ≤ m := by omega
              have HQM := Lib.hid hqm
              have hfg := front_good (D := L.drop i) (p := j - i) (by rw [HCD.out, H58.out]) hR.out.2.1 (by omega) (fun h1 h2 => HZ.out ⟨h1, by rw [HC0.out] at h2; injection h2⟩) (by rw [← hR.out.1, List.length_drop, HLM.out]; omega)
              rw [← hR.out.1, List.drop_drop, List.drop_drop, show i + (j - i + 1) = j + 1 by omega, show i + (j - i + 1 + q) = j + 1 + q by omega] at hfg
              have HFG := Lib.hid hfg
              obtain ⟨TT, hTT⟩ : ∃ T, (L.drop (j + 1)).take q = T := ⟨_, rfl⟩
              have hsl : ∀ W, (Instr.slice 9 (.string s) (some (.int .i64 ((j : Int) + 1))) (some (.int .i64 ((j : Int) + 1 + q))) none).run Tryd.prog W = .ok (tv TT) W := fun W => by
                rw [run_slice_string_lh W 9 s Tryd.underlying9 .i64 .i64 _ _ (by omega) (by omega) (by omega), show ((j : Int) + 1).toNat = j + 1 by omega, show ((j : Int) + 1 + q).toNat = j + 1 + q by omega, HSB.out _ _ (by omega) hqm, show j + 1 + q - (j + 1) = q by omega, hTT]
              rw [hTT] at HFG
              unfold tv at hsl
              obtain ⟨TB, hTB⟩ : ∃ B : ByteArray, B = ⟨TT.toArray⟩ := ⟨_, rfl⟩
              rw [← hTB] at hsl
              have HTB := Lib.hid hTB
              have w1 : IntKind.i64.wrap ((j : Int) + 1) = (j : Int) + 1 := wraps_i64 _ (by omega) (by omega)
              have w2 : IntKind.i64.wrap ((j : Int) + 1 + q) = (j : Int) + 1 + q := wraps_i64 _ (by omega) (by omega)
              have hown := hT.out.1
              have hpl := hT.out.2.1
              have hsz2 := hT.out.2.2.2.size
              clear hfg hTT hTB hno hbig hqm
              have e4' := e45
              clear e45
              rcases e4' with e4 | ⟨e4, e5⟩
              · go_wp2_with (at_builtin; refine wpList_append_opt rfl _ _ 22 rfl w.heap.size 9 i0 _ 1 16 Tryd.underlying22 hi hz0 hz1 hz2 rfl (by decide) _ _ _ rfl (World.ownsRow.alloc hown _) (some ⟨_, 0, none⟩) 1 1 [.string TB] rfl rfl (.inr ⟨_, rfl, new_cells _ #[_] _⟩) (by intro u hu; simp at hu; subst hu; rfl) (by unfold maxLen; omega) (by omega) (by simp <;> omega) ?_)
                intro v' w3 hown' hg' _
                have hb3 : Below w.heap.size w w3 := (hT.out.2.2.2.alloc hsz2 _).grown hg' (by simp <;> omega) (fun j hj => (hown.lt j hj).1)
                have HB3 := Lib.hid hb3; have HO := Lib.hid hown'
                clear hb3 hown' hg' hown hsl
                go_wp2
                go_roundw
                case rel =>
                  refine ⟨j + 1 + q, pre ++ [TT], HQM.out, by go_num, Lib.hid ⟨TRow.cut HO.out (by simp) (by rw [tcells_app, HTB.out]; rfl), by rw [List.length_append, List.length_singleton]; omega, ?_, HB3.out⟩⟩
                  have h1 := hT.out.2.2.1
                  have h2 := HFG.out.2
                  rw [textsL_snoc, List.append_assoc, List.append_assoc, List.cons_append, ← h2]
                  exact h1
                case measure => simp [intOf]; omega
              · go_wp2_with (at_builtin; refine wpList_append_opt rfl _ _ 22 rfl w.heap.size 9 i0 _ 1 16 Tryd.underlying22 hi hz0 hz1 hz2 rfl (by decide) _ _ _ rfl (World.ownsRow.alloc hown _) (some ⟨_, 0, none⟩) 1 1 [.string TB] rfl rfl (.inr ⟨_, rfl, new_cells _ #[_] _⟩) (by intro u hu; simp at hu; subst hu; rfl) (by unfold maxLen; omega) (by omega) (by simp <;> omega) ?_)
                intro v' w3 hown' hg' _
                have hb3 : Below w.heap.size w w3 := (hT.out.2.2.2.alloc hsz2 _).grown hg' (by simp <;> omega) (fun j hj => (hown.lt j hj).1)
                have HB3 := Lib.hid hb3; have HO := Lib.hid hown'
                clear hb3 hown' hg' hown hsl
                go_wp2
                go_roundw
                case rel =>
                  refine ⟨j + 1 + q, pre ++ [TT], HQM.out, by go_num, Lib.hid ⟨TRow.cut HO.out (by simp) (by rw [tcells_app, HTB.out]; rfl), by rw [List.length_append, List.length_singleton]; omega, ?_, HB3.out⟩⟩
                  have h1 := hT.out.2.2.1
                  have h2 := HFG.out.2
                  rw [textsL_snoc, List.append_assoc, List.append_assoc, List.cons_append, ← h2]
                  exact h1
                case measure => simp [intOf]; omega
        · have hjm2 : j = m := by omega
          subst hjm2
          have hjr : decide ((j : Int) < j) = false := by simp
          have e1 : ((j : Int) == i) = false := by rw [beq_eq_false_iff_ne]; omega
          have e2 : decide ((j : Int) ≤ j) = true := by simp
          have HNO := Lib.hid (hno fun l' h' => front_end h' (fun e => by have := congrArg List.length e; rw [List.length_drop, HLM.out] at this; simp at this; omega) (by
            have h1 := hR.out.2.1
            rwa [List.take_of_length_le (by rw [List.length_drop, HLM.out]; exact Nat.le_refl _)] at h1))
          clear hno
          go_wp2
          go_ret2
          exact ⟨SplitIs.no HNO.out, hT.out.2.2.2⟩
    · obtain rfl : i = m := by omega
      have hkr : decide ((i : Int) < i) = false := by simp
      have hfin : L = textsL pre := by
        have h1 := hT.out.2.2.1
        rwa [List.drop_of_length_le (by rw [HLM.out]; exact Nat.le_refl _), List.append_nil] at h1
      have HF := Lib.hid hfin
      clear hfin
      go_wp2
      go_ret2
      exact ⟨.inl ⟨pre, _, HF.out, rfl, hT.out.1.rd⟩, hT.out.2.2.2⟩
end Go.Proofs.YtefnkkjmcfpiaaaDoor
