/- Layer 4's laws: HashSums, HashMacs. -/
import Derived.Test.YtdjohogkjplpmaaDoorHashMac
import Derived.Test.YtdjohogkjplpmaaDoorRefMac
namespace Go.Proofs.YtdjohogkjplpmaaDoor
open Go.RowKit

theorem sum_nil : (sumL []).take 4 = [227, 176, 196, 66] := by decide +kernel
theorem nil_says : ∃ A : ByteArray, A = ⟨(sumL []).toArray⟩ ∧ ∃ h : 4 ≤ A.size, A.size = 32 ∧ A[0] = 227 ∧ A[1] = 176 ∧ A[2] = 196 ∧ A[3] = 66 := by
  refine ⟨⟨(sumL []).toArray⟩, rfl, (by show 4 ≤ 32; omega), rfl, ?_, ?_, ?_, ?_⟩ <;> decide +kernel
set_option maxRecDepth 100000 in
theorem answers4_any (w : World) (hr : RoundsIn w) : Calls Tryd.prog 6 #[] w fun e w' => e = .returned (.bool true) ∧ Below w.heap.size w w' := by
  obtain ⟨A, hA, h4, hs, h0, h1, h2, h3⟩ := nil_says
  have HR := Lib.hid hr; clear hr
  have hsz : ((A.size : Int) == 32) = true := by rw [hs]; rfl
  have h4i : (4 : Int) ≤ (A.size : Int) := by omega
  have HA := Lib.hid hA; clear hs hA
  go_enter Tryd.func6, Tryd.ntmps6
  go_wp2_with fail
  refine (sum_any ⟨#[]⟩ (by decide) _ HR.out).mono ?_
  rintro e w1 ⟨rfl, hb1⟩
  rw [show (⟨#[]⟩ : ByteArray).data.toList = [] from rfl, ← HA.out]
  dsimp only
  go_wp2
  go_ret
  exact ⟨rfl, hb1⟩
set_option maxRecDepth 100000 in
theorem hashSums_law (b : ByteArray) (hb : b.size ≤ maxLen) (w : World) (hr : RoundsIn w) :
    Calls Tryd.prog 3 #[.string b] w fun e w' => e = .returned (.bool true) ∧ Below w.heap.size w w' := by
  unfold maxLen at hb
  have HR := Lib.hid hr; clear hr
  by_cases h : b.size ≤ 3000
  · go_enter Tryd.func3, Tryd.ntmps3
    go_wp2_with fail
    refine (answers4_any _ HR.out).mono ?_
    rintro e w1 ⟨rfl, hb1⟩
    dsimp only
    go_wp2_with fail
    refine (sum_any b (by omega) _ (HR.out.below hb1)).mono ?_
    rintro e w2 ⟨rfl, hb2⟩
    dsimp only
    go_wp2_with fail
    refine (refSum_any b (by omega) _).mono ?_
    rintro e w3 ⟨rfl, hb3⟩
    generalize ByteArray.mk (sumL b.data.toList).toArray = D
    dsimp only
    go_wp2
    go_ret
    exact ⟨rfl, (hb1.chain hb2).chain hb3⟩
  · go_enter Tryd.func3, Tryd.ntmps3
    go_wp2_with fail
    refine (answers4_any _ HR.out).mono ?_
    rintro e w1 ⟨rfl, hb1⟩
    dsimp only
    go_wp2
    go_ret
    exact ⟨rfl, hb1⟩
set_option maxRecDepth 100000 in
theorem hashMacs_law (key b : ByteArray) (hk : key.size ≤ maxLen) (hb : b.size ≤ maxLen) (w : World) (hr : RoundsIn w) :
    Calls Tryd.prog 4 #[.string key, .string b] w fun e w' => e = .returned (.bool true) ∧ Below w.heap.size w w' := by
  unfold maxLen at hb hk
  have HR := Lib.hid hr; clear hr
  by_cases h : b.size ≤ 2000
  · by_cases h2 : key.size ≤ 2000
    · have hm := refMac_any key b (by omega) (by omega)
      have hn := mac_any key b (by omega) (by omega)
      obtain ⟨D, hD⟩ : ∃ D : ByteArray, D = ⟨(macL key.data.toList b.data.toList).toArray⟩ := ⟨_, rfl⟩
      have hDs : ((D.size : Int) == 32) = true := by rw [hD]; rfl
      rw [← hD] at hm hn
      have HM := Lib.hid hm; have HN := Lib.hid hn
      clear hm hn hD
      go_enter Tryd.func4, Tryd.ntmps4
      go_wp2_with fail
      refine (answers4_any _ HR.out).mono ?_
      rintro e w1 ⟨rfl, hb1⟩
      dsimp only
      go_wp2_with fail
      refine (HN.out _ (HR.out.below hb1)).mono ?_
      rintro e w2 ⟨rfl, hb2⟩
      dsimp only
      go_wp2_with fail
      refine (HM.out _).mono ?_
      rintro e w3 ⟨rfl, hb3⟩
      dsimp only
      go_wp2_with fail
      refine (HN.out _ (HR.out.below ((hb1.chain hb2).chain hb3))).mono ?_
      rintro e w4 ⟨rfl, hb4⟩
      dsimp only
      go_wp2
      go_ret
      exact ⟨rfl, ((hb1.chain hb2).chain hb3).chain hb4⟩
    · go_enter Tryd.func4, Tryd.ntmps4
      go_wp2_with fail
      refine (answers4_any _ HR.out).mono ?_
      rintro e w1 ⟨rfl, hb1⟩
      dsimp only
      go_wp2
      go_ret
      exact ⟨rfl, hb1⟩
  · go_enter Tryd.func4, Tryd.ntmps4
    go_wp2_with fail
    refine (answers4_any _ HR.out).mono ?_
    rintro e w1 ⟨rfl, hb1⟩
    dsimp only
    go_wp2
    go_ret
    exact ⟨rfl, hb1⟩
end Go.Proofs.YtdjohogkjplpmaaDoor
