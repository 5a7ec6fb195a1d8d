/- Contracts of the leaves of layer 1 and of its reference. -/
import Derived.Test.YtahgcnoaflamfaaRows
import Derived.Test.YtahgcnoaflamfaaB64
import Derived.WalkKit
import Derived.WalkLawsBesides
import Derived.Lib.Bytealg
import Derived.Lib.Hide
import Derived.Outline
import Derived.BigQuiet
import Derived.Deep.QuietTactic
namespace Go.Proofs.Ytahgcnoaflamfaa
open Go.RowKit

theorem ret_int {k : IntKind} {a b : Int} (h : a = b) : Ending.returned (.int k a) = .returned (.int k b) := by rw [h]
theorem ret_bool {a b : Bool} (h : a = b) : Ending.returned (.bool a) = .returned (.bool b) := by rw [h]

theorem sixty_any (n : Int) (h0 : 0 ≤ n) (h1 : n < 64) (w : World) :
    Calls Try.prog 21 #[.int .i64 n] w fun e w' => e = .returned (.int .u8 ((ltr n.toNat).toNat : Int)) ∧ w = w' := by
  go_enter Try.func21, Try.ntmps21
  go_wp2
  go_ret
  have h : n.toNat < (ByteArray.mk ltrs).size := by show n.toNat < 64; omega
  exact ⟨ret_int (congrArg (fun (x : UInt8) => (x.toNat : Int)) (ltr_at h)), rfl⟩

/-- what stands as it is in a form -/
def plainB (c : UInt8) : Bool := decide (97 ≤ c.toNat ∧ c.toNat ≤ 122 ∨ 65 ≤ c.toNat ∧ c.toNat ≤ 90 ∨ 48 ≤ c.toNat ∧ c.toNat ≤ 57 ∨ c.toNat = 45 ∨ c.toNat = 46 ∨ c.toNat = 95 ∨ c.toNat = 126)
def alnumB (c : UInt8) : Bool := decide (97 ≤ c.toNat ∧ c.toNat ≤ 122 ∨ 65 ≤ c.toNat ∧ c.toNat ≤ 90 ∨ 48 ≤ c.toNat ∧ c.toNat ≤ 57)

theorem plain_any (c : UInt8) (w : World) :
    Calls Try.prog 22 #[.int .u8 c.toNat] w fun e w' => e = .returned (.bool (plainB c)) ∧ w = w' := by
  go_enter Try.func22, Try.ntmps22
  go_wp2
  all_goals
    go_ret
    exact ⟨ret_bool (by rw [Bool.eq_iff_iff]; simp [plainB]; omega), rfl⟩

theorem alnum_any (c : UInt8) (w : World) :
    Calls Try.prog 28 #[.int .u8 c.toNat] w fun e w' => e = .returned (.bool (alnumB c)) ∧ w = w' := by
  go_enter Try.func28, Try.ntmps28
  go_wp2
  all_goals
    go_ret
    exact ⟨ret_bool (by rw [Bool.eq_iff_iff]; simp [alnumB]; omega), rfl⟩

/-- a hexadecimal digit's number; -1: none -/
def hexI (c : UInt8) : Int := if 48 ≤ c.toNat ∧ c.toNat ≤ 57 then c.toNat - 48 else if 65 ≤ c.toNat ∧ c.toNat ≤ 70 then c.toNat - 55 else if 97 ≤ c.toNat ∧ c.toNat ≤ 102 then c.toNat - 87 else -1
theorem hexI_spec (c : UInt8) : (48 ≤ (c.toNat : Int) ∧ (c.toNat : Int) ≤ 57 ∧ hexI c = c.toNat - 48) ∨ (65 ≤ (c.toNat : Int) ∧ (c.toNat : Int) ≤ 70 ∧ hexI c = c.toNat - 55) ∨ (97 ≤ (c.toNat : Int) ∧ (c.toNat : Int) ≤ 102 ∧ hexI c = c.toNat - 87) ∨
    (((c.toNat : Int) < 48 ∨ 57 < (c.toNat : Int) ∧ (c.toNat : Int) < 65 ∨ 70 < (c.toNat : Int) ∧ (c.toNat : Int) < 97 ∨ 102 < (c.toNat : Int)) ∧ hexI c = -1) := by
  unfold hexI
  split
  · omega
  · split
    · omega
    · split <;> omega

set_option maxRecDepth 100000 in
theorem hex_any (c : UInt8) (w : World) :
    Calls Try.prog 25 #[.int .u8 c.toNat] w fun e w' => e = .returned (.int .i64 (hexI c)) ∧ w = w' := by
  have hc : (c.toNat : Int) < 256 := by have := c.toNat_lt; omega
  go_enter Try.func25, Try.ntmps25
  go_wp2
  all_goals
    go_ret
    exact ⟨ret_int (by have := hexI_spec c; omega), rfl⟩

theorem hex_quiet (c : UInt8) (w : World) :
    Calls Try.prog 25 #[.int .u8 c.toNat] w fun e w' => e = .returned (.int .i64 (hexI c)) ∧ w' = w := (hex_any c w).mono fun _ _ h => ⟨h.1, h.2.symm⟩
theorem sixty_quiet (n : Int) (h0 : 0 ≤ n) (h1 : n < 64) (w : World) :
    Calls Try.prog 21 #[.int .i64 n] w fun e w' => e = .returned (.int .u8 ((ltr n.toNat).toNat : Int)) ∧ w' = w := (sixty_any n h0 h1 w).mono fun _ _ h => ⟨h.1, h.2.symm⟩

/-- what digit answers: the number, and whether there is one -/
def DigitSays (c : UInt8) (e : Ending) : Prop := (0 ≤ hexI c ∧ e = .returned (.tuple #[.int .u8 (hexI c), .bool true])) ∨ (hexI c = -1 ∧ e = .returned (.tuple #[.int .u8 0, .bool false]))

theorem ret_tup {k : IntKind} {a b : Int} {x y : Bool} (h : a = b) (h' : x = y) : Ending.returned (.tuple #[.int k a, .bool x]) = .returned (.tuple #[.int k b, .bool y]) := by rw [h, h']

set_option maxRecDepth 100000 in
theorem digit_says (c : UInt8) (w : World) :
    Calls Try.prog 27 #[.int .u8 c.toNat] w fun e w' => DigitSays c e ∧ w' = w := by
  have hc : (c.toNat : Int) < 256 := by have := c.toNat_lt; omega
  go_enter Try.func27, Try.ntmps27
  go_wp2
  all_goals
    go_ret2
    have hs := hexI_spec c
    refine ⟨?_, rfl⟩
    first
      | exact Or.inl ⟨by omega, ret_tup (by omega) rfl⟩
      | exact Or.inr ⟨by omega, rfl⟩

theorem digit_yes (c : UInt8) (h : 0 ≤ hexI c) (w : World) :
    Calls Try.prog 27 #[.int .u8 c.toNat] w fun e w' => e = .returned (.tuple #[.int .u8 (hexI c), .bool true]) ∧ w = w' :=
  (digit_says c w).mono fun _ _ ⟨hd, hw⟩ => ⟨by rcases hd with ⟨_, h'⟩ | ⟨h', _⟩; exact h'; omega, hw.symm⟩
theorem digit_no (c : UInt8) (h : hexI c = -1) (w : World) :
    Calls Try.prog 27 #[.int .u8 c.toNat] w fun e w' => e = .returned (.tuple #[.int .u8 0, .bool false]) ∧ w = w' :=
  (digit_says c w).mono fun _ _ ⟨hd, hw⟩ => ⟨by rcases hd with ⟨h', _⟩ | ⟨_, h'⟩; omega; exact h', hw.symm⟩

/-! ## strings.IndexByte -/
set_option maxRecDepth 100000 in
theorem stringslite_any (s : ByteArray) (c : Int) (w : World) :
    Calls Try.prog 26 #[.string s, .int .u8 c] w fun e w' => e = .returned (.int .i64 (Lib.indexByte s.data.toList c.toNat.toUInt8)) ∧ w = w' := by
  go_enter Try.func26, Try.ntmps26
  go_wp2
  rw [run_callFunc_extern Try.func29 (by kernel_rfl) (by kernel_rfl) (by kernel_rfl) (e := Extern.BytealgIndexByte.indexByte) (by kernel_rfl), Lib.run_indexByteString]
  simp only [Result.andThen]
  rw [Oper.upon_value]
  go_wp2
  go_ret
  exact ⟨rfl, rfl⟩
theorem indexByte_any (s : ByteArray) (c : Int) (w : World) :
    Calls Try.prog 20 #[.string s, .int .u8 c] w fun e w' => e = .returned (.int .i64 (Lib.indexByte s.data.toList c.toNat.toUInt8)) ∧ w = w' := by
  go_enter Try.func20, Try.ntmps20
  go_wp2_with (go_at_call 26; refine (stringslite_any _ _ _).mono ?_; rintro e w' ⟨rfl, rfl⟩)
  go_ret
  exact ⟨rfl, rfl⟩
end Go.Proofs.Ytahgcnoaflamfaa
