/- Contracts of the leaves of layer 1 and of its reference. -/
import Derived.Test.YthinbheplcameaaBase
import Derived.Test.YthinbheplcameaaB64
namespace Go.Proofs.Ythinbheplcameaa
open Go.RowKit

theorem sixty_any (n : Int) (h0 : 0 ≤ n) (h1 : n < 64) (w : World) :
    Calls Try.prog 36 #[.int .i64 n] w fun e w' => e = .returned (.int .u8 ((ltr n.toNat).toNat : Int)) ∧ w = w' := by
  go_enter Try.func36, Try.ntmps36
  go_wp2
  go_ret
  have h : n.toNat < (ByteArray.mk ltrs).size := by show n.toNat < 64; omega
  exact ⟨ret_int (congrArg (fun (x : UInt8) => (x.toNat : Int)) (ltr_at h)), rfl⟩

theorem plain_any (c : UInt8) (w : World) :
    Calls Try.prog 37 #[.int .u8 c.toNat] w fun e w' => e = .returned (.bool (plainB c)) ∧ w = w' := by
  go_enter Try.func37, Try.ntmps37
  go_wp2
  all_goals
    go_ret
    exact ⟨ret_bool (by rw [Bool.eq_iff_iff]; simp [plainB]; omega), rfl⟩

theorem alnum_any (c : UInt8) (w : World) :
    Calls Try.prog 50 #[.int .u8 c.toNat] w fun e w' => e = .returned (.bool (alnumB c)) ∧ w = w' := by
  go_enter Try.func50, Try.ntmps50
  go_wp2
  all_goals
    go_ret
    exact ⟨ret_bool (by rw [Bool.eq_iff_iff]; simp [alnumB]; omega), rfl⟩

set_option maxRecDepth 100000 in
theorem hex_any (c : UInt8) (w : World) :
    Calls Try.prog 40 #[.int .u8 c.toNat] w fun e w' => e = .returned (.int .i64 (hexI c)) ∧ w = w' := by
  have hc : (c.toNat : Int) < 256 := by have := c.toNat_lt; omega
  go_enter Try.func40, Try.ntmps40
  go_wp2
  all_goals
    go_ret
    exact ⟨ret_int (by have := hexI_spec c; omega), rfl⟩

theorem hex_quiet (c : UInt8) (w : World) :
    Calls Try.prog 40 #[.int .u8 c.toNat] w fun e w' => e = .returned (.int .i64 (hexI c)) ∧ w' = w := (hex_any c w).mono fun _ _ h => ⟨h.1, h.2.symm⟩
theorem sixty_quiet (n : Int) (h0 : 0 ≤ n) (h1 : n < 64) (w : World) :
    Calls Try.prog 36 #[.int .i64 n] w fun e w' => e = .returned (.int .u8 ((ltr n.toNat).toNat : Int)) ∧ w' = w := (sixty_any n h0 h1 w).mono fun _ _ h => ⟨h.1, h.2.symm⟩

/-- what digit answers: the number, and whether there is one -/
def DigitSays (c : UInt8) (e : Ending) : Prop := (0 ≤ hexI c ∧ e = .returned (.tuple #[.int .u8 (hexI c), .bool true])) ∨ (hexI c = -1 ∧ e = .returned (.tuple #[.int .u8 0, .bool false]))

set_option maxRecDepth 100000 in
theorem digit_says (c : UInt8) (w : World) :
    Calls Try.prog 49 #[.int .u8 c.toNat] w fun e w' => DigitSays c e ∧ w' = w := by
  have hc : (c.toNat : Int) < 256 := by have := c.toNat_lt; omega
  go_enter Try.func49, Try.ntmps49
  go_wp2
  all_goals
    go_ret2
    have hs := hexI_spec c
    refine ⟨?_, rfl⟩
    first
      | exact Or.inl ⟨by omega, ret_tup (by omega) rfl⟩
      | exact Or.inr ⟨by omega, rfl⟩

theorem digit_yes (c : UInt8) (h : 0 ≤ hexI c) (w : World) :
    Calls Try.prog 49 #[.int .u8 c.toNat] w fun e w' => e = .returned (.tuple #[.int .u8 (hexI c), .bool true]) ∧ w = w' :=
  (digit_says c w).mono fun _ _ ⟨hd, hw⟩ => ⟨by rcases hd with ⟨_, h'⟩ | ⟨h', _⟩; exact h'; omega, hw.symm⟩
theorem digit_no (c : UInt8) (h : hexI c = -1) (w : World) :
    Calls Try.prog 49 #[.int .u8 c.toNat] w fun e w' => e = .returned (.tuple #[.int .u8 0, .bool false]) ∧ w = w' :=
  (digit_says c w).mono fun _ _ ⟨hd, hw⟩ => ⟨by rcases hd with ⟨h', _⟩ | ⟨_, h'⟩; omega; exact h', hw.symm⟩

/-! ## strings.IndexByte -/
set_option maxRecDepth 100000 in
theorem stringslite_any (s : ByteArray) (c : Int) (w : World) :
    Calls Try.prog 48 #[.string s, .int .u8 c] w fun e w' => e = .returned (.int .i64 (Lib.indexByte s.data.toList c.toNat.toUInt8)) ∧ w = w' := by
  go_enter Try.func48, Try.ntmps48
  go_wp2
  rw [run_callFunc_extern Try.func54 (by kernel_rfl) (by kernel_rfl) (by kernel_rfl) (e := Extern.BytealgIndexByte.indexByte) (by kernel_rfl), Lib.run_indexByteString]
  simp only [Result.andThen]
  rw [Oper.upon_value]
  go_wp2
  go_ret
  exact ⟨rfl, rfl⟩
theorem indexByte_any (s : ByteArray) (c : Int) (w : World) :
    Calls Try.prog 35 #[.string s, .int .u8 c] w fun e w' => e = .returned (.int .i64 (Lib.indexByte s.data.toList c.toNat.toUInt8)) ∧ w = w' := by
  go_enter Try.func35, Try.ntmps35
  go_wp2_with (go_at_call 48; refine (stringslite_any _ _ _).mono ?_; rintro e w' ⟨rfl, rfl⟩)
  go_ret
  exact ⟨rfl, rfl⟩
end Go.Proofs.Ythinbheplcameaa
