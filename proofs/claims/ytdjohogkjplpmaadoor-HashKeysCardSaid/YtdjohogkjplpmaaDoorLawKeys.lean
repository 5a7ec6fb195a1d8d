/- Layer 4's laws: HashKeys. -/
import Derived.Test.YtdjohogkjplpmaaDoorLawHash
namespace Go.Proofs.YtdjohogkjplpmaaDoor
open Go.RowKit

theorem mac_long (k b : List UInt8) (h : 64 < k.length) : macL k b = macL (sumL k) b := by
  have e : padK k = padK (sumL k) := by
    unfold padK
    have e1 : keyL k = sumL k := by unfold keyL; rw [if_pos h]
    have e2 : keyL (sumL k) = sumL k := by unfold keyL; rw [if_neg (by rw [sumL_len]; omega)]
    rw [e1, e2]
  unfold macL; rw [e]
theorem mac_zero (k b : List UInt8) (h : k.length ≤ 63) : macL k b = macL (k ++ [0]) b := by
  have e : padK k = padK (k ++ [0]) := by
    unfold padK
    have e1 : keyL k = k := by unfold keyL; rw [if_neg (by omega)]
    have e2 : keyL (k ++ [0]) = k ++ [0] := by unfold keyL; rw [if_neg (by simp; omega)]
    rw [e1, e2, List.append_assoc]
    congr 1
    rw [List.length_append, List.length_singleton, show 64 - k.length = (64 - (k.length + 1)) + 1 by omega, List.replicate_succ]; rfl
  unfold macL; rw [e]
set_option maxRecDepth 100000 in
theorem hashKeys_law (key b : ByteArray) (hk : key.size ≤ maxLen) (hb : b.size ≤ maxLen) (w : World) (hr : RoundsIn w) :
    Calls Tryd.prog 5 #[.string key, .string b] w fun e w' => e = .returned (.bool true) ∧ Below w.heap.size w w' := by
  unfold maxLen at hb hk
  have HR := Lib.hid hr; clear hr
  by_cases h : b.size ≤ 500
  · by_cases h2 : key.size ≤ 500
    · obtain ⟨i0, hi, hz0, hz1, hz2⟩ := info_parts Tryd.infoByte
      have hmk := run_makeSlice w 27 5 i0 _ Tryd.underlying27 hi hz0 .i64 .i64 65 65 (by decide) (by decide) (by rw [hz1]; decide) (by rw [hz2]; decide) (by decide)
      rw [hz1] at hmk
      obtain ⟨C, hC⟩ : ∃ C, C = madeCells (Value.int .u8 0).cells ((65 : Int).toNat * 1) := ⟨_, rfl⟩
      rw [← hC] at hmk
      have hCl : C.toList = cells (List.replicate 65 0) := by rw [hC]; kernel_rfl
      obtain ⟨Z, hZ⟩ : ∃ Z : ByteArray, Z = ⟨(List.replicate 65 (0 : UInt8)).toArray⟩ := ⟨_, rfl⟩
      have hcv := conv_new w (List.replicate 65 0) C 65 65 rfl hCl
      rw [← hZ] at hcv
      have hA : Below w.heap.size w (w.alloc (.cells C 5)) := (Below.refl _ _).alloc (Nat.le_refl _) _
      have HA := Lib.hid hA
      clear hA hC hCl hi hz0 hz1 hz2
      by_cases h3 : key.size ≤ 60
      · have hd3 : decide ((60 : Int) < (key.size : Int)) = false := by simp; omega
        have hZs : Z.size = 65 := by rw [hZ]; rfl
        have hLs : (key ++ Z).size = key.size + 65 := by rw [ByteArray.size_append, hZs]
        have hS1 : key.size ≤ 60 := h3
        have hS2 : (key ++ ⟨#[0]⟩).size ≤ 61 := by rw [ByteArray.size_append]; show key.size + 1 ≤ 61; omega
        have hm1 := mac_any (key ++ Z) b (by omega) (by omega)
        have hm2 := mac_any ⟨(sumL (key ++ Z).data.toList).toArray⟩ b (by show 32 ≤ _; omega) (by omega)
        have hm3 := mac_any key b (by omega) (by omega)
        have hm4 := mac_any (key ++ ⟨#[0]⟩) b (by omega) (by omega)
        have hq1 := mac_long (key ++ Z).data.toList b.data.toList (by show 64 < (key ++ Z).size; omega)
        have hq2 := mac_zero key.data.toList b.data.toList (by show key.size ≤ 63; omega)
        have hsum := sum_any (key ++ Z) (by omega)
        have hd0 : (key ++ ⟨#[0]⟩).data.toList = key.data.toList ++ [0] := by rw [ByteArray.data_append, Array.toList_append]
        rw [hd0, ← hq2] at hm4
        have hd1 : (ByteArray.mk (sumL (key ++ Z).data.toList).toArray).data.toList = sumL (key ++ Z).data.toList := rfl
        rw [hd1, ← hq1] at hm2
        have e1 : ∀ W, (Op.stringOp .add key Z).run Tryd.prog W = .ok (.string (key ++ Z)) W := fun W => run_string_add_sum W _ _ (by omega)
        have e2 : ∀ W, (Op.stringOp .add key ⟨#[0]⟩).run Tryd.prog W = .ok (.string (key ++ ⟨#[0]⟩)) W := fun W => run_string_add_sum W _ _ (by show key.size + 1 ≤ _; omega)
        obtain ⟨D1, hD1⟩ : ∃ D : ByteArray, D = ⟨(macL (key ++ Z).data.toList b.data.toList).toArray⟩ := ⟨_, rfl⟩
        obtain ⟨D2, hD2⟩ : ∃ D : ByteArray, D = ⟨(macL key.data.toList b.data.toList).toArray⟩ := ⟨_, rfl⟩
        obtain ⟨D3, hD3⟩ : ∃ D : ByteArray, D = ⟨(sumL (key ++ Z).data.toList).toArray⟩ := ⟨_, rfl⟩
        rw [← hD1] at hm1 hm2
        rw [← hD2] at hm3 hm4
        rw [← hD3] at hm2 hsum
        have HM1 := Lib.hid hm1; have HM2 := Lib.hid hm2; have HM3 := Lib.hid hm3; have HM4 := Lib.hid hm4; have HSUM := Lib.hid hsum
        clear hm1 hm2 hm3 hm4 hsum hq1 hq2 hd0 hd1 hD1 hD2 hD3 hZ hZs hLs hS2
        go_enter Tryd.func5, Tryd.ntmps5
        go_wp2_with fail
        refine (answers4_any _ (HR.out.below HA.out)).mono ?_
        rintro e w1 ⟨rfl, hb1⟩
        have hc1 := HA.out.trans (hb1.mono HA.out.size)
        dsimp only
        go_wp2_with fail
        refine (HM1.out _ (HR.out.below hc1)).mono ?_
        rintro e w2 ⟨rfl, hb2⟩
        have hc2 := hc1.chain hb2
        dsimp only
        go_wp2_with fail
        refine (HSUM.out _ (HR.out.below hc2)).mono ?_
        rintro e w3 ⟨rfl, hb3⟩
        have hc3 := hc2.chain hb3
        dsimp only
        go_wp2_with fail
        refine (HM2.out _ (HR.out.below hc3)).mono ?_
        rintro e w4 ⟨rfl, hb4⟩
        have hc4 := hc3.chain hb4
        dsimp only
        go_wp2_with fail
        refine (HM3.out _ (HR.out.below hc4)).mono ?_
        rintro e w5 ⟨rfl, hb5⟩
        have hc5 := hc4.chain hb5
        dsimp only
        go_wp2_with fail
        refine (HM4.out _ (HR.out.below hc5)).mono ?_
        rintro e w6 ⟨rfl, hb6⟩
        have hc6 := hc5.chain hb6
        dsimp only
        go_wp2
        go_ret
        exact ⟨rfl, hc6⟩
      · have hd3 : decide ((60 : Int) < (key.size : Int)) = true := by simp; omega
        have hge : (60 : Int) ≤ (key.size : Int) := by omega
        have hZs : Z.size = 65 := by rw [hZ]; rfl
        have hLs : (key ++ Z).size = key.size + 65 := by rw [ByteArray.size_append, hZs]
        have hS1 : (key.extract 0 60).size ≤ 60 := by simp [ByteArray.size_extract]; omega
        have hS2 : ((key.extract 0 60) ++ ⟨#[0]⟩).size ≤ 61 := by rw [ByteArray.size_append]; show (key.extract 0 60).size + 1 ≤ 61; omega
        have hm1 := mac_any (key ++ Z) b (by omega) (by omega)
        have hm2 := mac_any ⟨(sumL (key ++ Z).data.toList).toArray⟩ b (by show 32 ≤ _; omega) (by omega)
        have hm3 := mac_any (key.extract 0 60) b (by omega) (by omega)
        have hm4 := mac_any ((key.extract 0 60) ++ ⟨#[0]⟩) b (by omega) (by omega)
        have hq1 := mac_long (key ++ Z).data.toList b.data.toList (by show 64 < (key ++ Z).size; omega)
        have hq2 := mac_zero (key.extract 0 60).data.toList b.data.toList (by show (key.extract 0 60).size ≤ 63; omega)
        have hsum := sum_any (key ++ Z) (by omega)
        have hd0 : ((key.extract 0 60) ++ ⟨#[0]⟩).data.toList = (key.extract 0 60).data.toList ++ [0] := by rw [ByteArray.data_append, Array.toList_append]
        rw [hd0, ← hq2] at hm4
        have hd1 : (ByteArray.mk (sumL (key ++ Z).data.toList).toArray).data.toList = sumL (key ++ Z).data.toList := rfl
        rw [hd1, ← hq1] at hm2
        have e1 : ∀ W, (Op.stringOp .add key Z).run Tryd.prog W = .ok (.string (key ++ Z)) W := fun W => run_string_add_sum W _ _ (by omega)
        have e2 : ∀ W, (Op.stringOp .add (key.extract 0 60) ⟨#[0]⟩).run Tryd.prog W = .ok (.string ((key.extract 0 60) ++ ⟨#[0]⟩)) W := fun W => run_string_add_sum W _ _ (by show (key.extract 0 60).size + 1 ≤ _; omega)
        obtain ⟨D1, hD1⟩ : ∃ D : ByteArray, D = ⟨(macL (key ++ Z).data.toList b.data.toList).toArray⟩ := ⟨_, rfl⟩
        obtain ⟨D2, hD2⟩ : ∃ D : ByteArray, D = ⟨(macL (key.extract 0 60).data.toList b.data.toList).toArray⟩ := ⟨_, rfl⟩
        obtain ⟨D3, hD3⟩ : ∃ D : ByteArray, D = ⟨(sumL (key ++ Z).data.toList).toArray⟩ := ⟨_, rfl⟩
        rw [← hD1] at hm1 hm2
        rw [← hD2] at hm3 hm4
        rw [← hD3] at hm2 hsum
        have HM1 := Lib.hid hm1; have HM2 := Lib.hid hm2; have HM3 := Lib.hid hm3; have HM4 := Lib.hid hm4; have HSUM := Lib.hid hsum
        clear hm1 hm2 hm3 hm4 hsum hq1 hq2 hd0 hd1 hD1 hD2 hD3 hZ hZs hLs hS2
        go_enter Tryd.func5, Tryd.ntmps5
        go_wp2_with fail
        refine (answers4_any _ (HR.out.below HA.out)).mono ?_
        rintro e w1 ⟨rfl, hb1⟩
        have hc1 := HA.out.trans (hb1.mono HA.out.size)
        dsimp only
        go_wp2_with fail
        refine (HM1.out _ (HR.out.below hc1)).mono ?_
        rintro e w2 ⟨rfl, hb2⟩
        have hc2 := hc1.chain hb2
        dsimp only
        go_wp2_with fail
        refine (HSUM.out _ (HR.out.below hc2)).mono ?_
        rintro e w3 ⟨rfl, hb3⟩
        have hc3 := hc2.chain hb3
        dsimp only
        go_wp2_with fail
        refine (HM2.out _ (HR.out.below hc3)).mono ?_
        rintro e w4 ⟨rfl, hb4⟩
        have hc4 := hc3.chain hb4
        dsimp only
        go_wp2_with fail
        refine (HM3.out _ (HR.out.below hc4)).mono ?_
        rintro e w5 ⟨rfl, hb5⟩
        have hc5 := hc4.chain hb5
        dsimp only
        go_wp2_with fail
        refine (HM4.out _ (HR.out.below hc5)).mono ?_
        rintro e w6 ⟨rfl, hb6⟩
        have hc6 := hc5.chain hb6
        dsimp only
        go_wp2
        go_ret
        exact ⟨rfl, hc6⟩
    · go_enter Tryd.func5, Tryd.ntmps5
      go_wp2_with fail
      refine (answers4_any _ HR.out).mono ?_
      rintro e w1 ⟨rfl, hb1⟩
      dsimp only
      go_wp2
      go_ret
      exact ⟨rfl, hb1⟩
  · go_enter Tryd.func5, Tryd.ntmps5
    go_wp2_with fail
    refine (answers4_any _ HR.out).mono ?_
    rintro e w1 ⟨rfl, hb1⟩
    dsimp only
    go_wp2
    go_ret
    exact ⟨rfl, hb1⟩
end Go.Proofs.YtdjohogkjplpmaaDoor
