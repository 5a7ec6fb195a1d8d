/- hash.turned, and bits.RotateLeft32 by a number below 0. -/
import Derived.Test.YtdflghphjhejdaaDoorTurn
namespace Go.Proofs.YtdflghphjhejdaaDoor
open Go.RowKit

theorem rotl_int (x : UInt32) (n : Nat) : bits .or .u32 ((x.toNat : Int) * 2 ^ (32 - n) % 4294967296) ((x.toNat : Int) / 2 ^ n) = ((rotr x n).toNat : Int) := by
  have h1 : (x.toNat : Int) / 2 ^ n = ((x.toNat / 2 ^ n : Nat) : Int) := by rw [Int.natCast_ediv, Int.natCast_pow]; rfl
  have h2 : (x.toNat : Int) * 2 ^ (32 - n) % 4294967296 = ((x.toNat * 2 ^ (32 - n) % 4294967296 : Nat) : Int) := by rw [Int.natCast_emod, Int.natCast_mul, Int.natCast_pow]; rfl
  rw [rotr_nat, h1, h2, Nat.or_comm]
  exact bits_word_or _ _ (Nat.mod_lt _ (by decide)) (Nat.lt_of_le_of_lt (Nat.div_le_self _ _) (w_lt x))
theorem rotl_any (x : UInt32) (n : Nat) (h0 : 1 ≤ n) (h1 : n ≤ 31) (w : World) :
    Calls Tryd.prog 28 #[.int .u32 (x.toNat : Int), .int .i64 (-(n : Int))] w fun e w' => e = .returned (.int .u32 ((rotr x n).toNat : Int)) ∧ w = w' := by
  have hx := w_lt x
  obtain ⟨m, hm⟩ : ∃ m, 32 - n = m := ⟨_, rfl⟩
  have hmI : (m : Int) = 32 - (n : Int) := by omega
  have hb : bits .and .u64 (IntKind.u64.wrap (-(n : Int))) 31 = (m : Int) := by
    have e : IntKind.u64.wrap (-(n : Int)) = ((18446744073709551616 - n : Nat) : Int) := by rw [IntKind.wrap_u64]; omega
    have := (bits_nat .u64 64 (by decide) (fun k h0 h1 => by rw [IntKind.wrap_u64]; omega) (18446744073709551616 - n) 31 (by omega) (by decide)).1
    rw [e]
    refine this.trans ?_
    have h31 : (18446744073709551616 - n) &&& 31 = (18446744073709551616 - n) % 32 := Nat.and_two_pow_sub_one_eq_mod _ 5
    rw [h31]; omega
  have b1 : (m : Int) ≤ 31 := by omega
  have b0 : (1 : Int) ≤ (m : Int) := by omega
  have hw : IntKind.u64.wrap (32 - (m : Int)) = (n : Int) := by rw [IntKind.wrap_u64]; omega
  have HM := Lib.hid hm
  clear hm hmI
  go_enter Tryd.func28, Tryd.ntmps28
  go_wp2
  go_ret
  exact ⟨ret_int (by have := rotl_int x n; rw [HM.out] at this; exact this), rfl⟩
/-- by a number that is written out -/
theorem rotl_q (x : UInt32) (m : Int) (h0 : -31 ≤ m) (h1 : m ≤ -1) (w : World) :
    Calls Tryd.prog 28 #[.int .u32 (x.toNat : Int), .int .i64 m] w fun e w' => e = .returned (.int .u32 ((rotr x (-m).toNat).toNat : Int)) ∧ w = w' := by
  have := rotl_any x (-m).toNat (by omega) (by omega) w
  have e : -(((-m).toNat : Nat) : Int) = m := by omega
  rw [e] at this; exact this
theorem turned_any (x : UInt32) (a b c : Nat) (ha0 : 1 ≤ a) (ha : a ≤ 31) (hb0 : 1 ≤ b) (hb : b ≤ 31) (hc0 : 1 ≤ c) (hc : c ≤ 31) (w : World) :
    Calls Tryd.prog 27 #[.int .u32 (x.toNat : Int), .int .i64 (a : Int), .int .i64 (b : Int), .int .i64 (c : Int)] w fun e w' =>
      e = .returned (.int .u32 ((xorW (xorW (rotr x a) (rotr x b)) (rotr x c)).toNat : Int)) ∧ w = w' := by
  have hv : bits .xor .u32 (bits .xor .u32 ((rotr x a).toNat : Int) ((rotr x b).toNat : Int)) ((rotr x c).toNat : Int) = ((xorW (xorW (rotr x a) (rotr x b)) (rotr x c)).toNat : Int) := by rw [w_xor, w_xor]
  have HV := Lib.hid hv; clear hv
  go_enter Tryd.func27, Tryd.ntmps27
  go_wp2_with (go_at_call 28; refine (rotl_any x _ (by omega) (by omega) _).mono ?_; rintro e w' ⟨rfl, rfl⟩)
  go_ret
  exact ⟨ret_int HV.out, rfl⟩
theorem turned_q (x : UInt32) (a b c : Int) (ha0 : 1 ≤ a) (ha : a ≤ 31) (hb0 : 1 ≤ b) (hb : b ≤ 31) (hc0 : 1 ≤ c) (hc : c ≤ 31) (w : World) :
    Calls Tryd.prog 27 #[.int .u32 (x.toNat : Int), .int .i64 a, .int .i64 b, .int .i64 c] w fun e w' =>
      e = .returned (.int .u32 ((xorW (xorW (rotr x a.toNat) (rotr x b.toNat)) (rotr x c.toNat)).toNat : Int)) ∧ w' = w := by
  have := turned_any x a.toNat b.toNat c.toNat (by omega) (by omega) (by omega) (by omega) (by omega) (by omega) w
  rw [show ((a.toNat : Nat) : Int) = a by omega, show ((b.toNat : Nat) : Int) = b by omega, show ((c.toNat : Nat) : Int) = c by omega] at this
  exact this.mono fun _ _ h => ⟨h.1, h.2.symm⟩
end Go.Proofs.YtdflghphjhejdaaDoor
