/- text.quoted. -/
import Derived.Test.YthinbheplcameaaLeaf
namespace Go.Proofs.Ythinbheplcameaa
open Go.RowKit
theorem digit_any (c : UInt8) (w : World) :
    Calls Try.prog 49 #[.int .u8 c.toNat] w fun e w' => e = .returned (.tuple #[.int .u8 (digN c), .bool (digB c)]) ∧ w = w' :=
  (digit_says c w).mono fun _ _ ⟨hd, hw⟩ => ⟨by
    rcases hd with ⟨h, h'⟩ | ⟨h, h'⟩
    · rw [h']; exact ret_tup (by unfold digN; rw [if_neg (by omega)]) (by simp [digB, h])
    · rw [h']; exact ret_tup (by unfold digN; rw [if_pos (by omega)]) (by simp [digB, h]), hw.symm⟩

theorem or_join (h l : Int) (h0 : 0 ≤ h ∧ h ≤ 15) (l0 : 0 ≤ l ∧ l ≤ 15) : bits .or .u8 (h * 16) l = 16 * h + l := by
  rw [bits_join .u8 8 (by decide) wraps_u8 4 (h * 16) l (by omega) (by omega) (by omega) (by omega) (by omega) (by omega)]; omega

set_option maxRecDepth 100000 in
theorem quoted_yes (x : ByteArray) (h2 : 2 ≤ x.size) (h0 : digB x[0] = true) (h1 : digB x[1] = true) (hm : x.size ≤ maxLen) (w : World) :
    Calls Try.prog 38 #[.string x] w fun e w' => e = .returned (.tuple #[.int .u8 (16 * digN x[0] + digN x[1]), .bool true]) ∧ w = w' := by
  unfold maxLen at hm
  obtain ⟨a0, a1⟩ := digN_bd x[0]
  obtain ⟨b0, b1⟩ := digN_bd x[1]
  go_enter Try.func38, Try.ntmps38
  go_wp2_with fail
  refine (digit_any x[0] _).mono ?_
  rintro e w' ⟨rfl, rfl⟩
  go_wp2_with fail
  refine (digit_any x[1] _).mono ?_
  rintro e w' ⟨rfl, rfl⟩
  go_wp2
  go_ret2
  exact ⟨ret_tup (or_join _ _ ⟨a0, a1⟩ ⟨b0, b1⟩) rfl, rfl⟩

set_option maxRecDepth 100000 in
theorem quoted_short (x : ByteArray) (h2 : x.size < 2) (w : World) :
    Calls Try.prog 38 #[.string x] w fun e w' => e = .returned (.tuple #[.int .u8 0, .bool false]) ∧ w = w' := by
  go_enter Try.func38, Try.ntmps38
  go_wp2
  go_ret2
  exact ⟨rfl, rfl⟩

set_option maxRecDepth 100000 in
theorem quoted_no (x : ByteArray) (h2 : 2 ≤ x.size) (hb : digB x[0] = false ∨ digB x[1] = false) (hm : x.size ≤ maxLen) (w : World) :
    Calls Try.prog 38 #[.string x] w fun e w' => e = .returned (.tuple #[.int .u8 0, .bool false]) ∧ w = w' := by
  unfold maxLen at hm
  obtain ⟨a0, a1⟩ := digN_bd x[0]
  obtain ⟨b0, b1⟩ := digN_bd x[1]
  by_cases h0 : digB x[0] = true
  · have h1 : digB x[1] = false := by rcases hb with h | h; rw [h0] at h; cases h; exact h
    clear hb
    go_enter Try.func38, Try.ntmps38
    go_wp2_with fail
    refine (digit_any x[0] _).mono ?_
    rintro e w' ⟨rfl, rfl⟩
    go_wp2_with fail
    refine (digit_any x[1] _).mono ?_
    rintro e w' ⟨rfl, rfl⟩
    go_wp2
    go_ret2
    exact ⟨rfl, rfl⟩
  · have h0 : digB x[0] = false := by simpa using h0
    clear hb
    go_enter Try.func38, Try.ntmps38
    go_wp2_with fail
    refine (digit_any x[0] _).mono ?_
    rintro e w' ⟨rfl, rfl⟩
    go_wp2_with fail
    refine (digit_any x[1] _).mono ?_
    rintro e w' ⟨rfl, rfl⟩
    go_wp2
    all_goals
      go_ret2
      exact ⟨rfl, rfl⟩
end Go.Proofs.Ythinbheplcameaa
