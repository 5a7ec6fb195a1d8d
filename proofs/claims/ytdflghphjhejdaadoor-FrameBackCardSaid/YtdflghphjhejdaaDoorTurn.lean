/- The reference's turn. -/
import Derived.Test.YtdflghphjhejdaaDoorSha
namespace Go.Proofs.YtdflghphjhejdaaDoor
open Go.RowKit

/-- a callee that leaves the world alone, in a second quiet region -/
theorem quiet_more {P : Program} {f : FuncId} {args : Array Value} {w : World} {a n : Nat} {v : Value} (h : Calls P f args (w.drewN (a + n)) fun e w' => e = .returned v ∧ w' = w.drewN (a + n)) :
    Calls P f args (w.drewN (a + n)) fun e w'' => e = .returned v ∧ ∃ m, w'' = w.drewN (a + m) := h.mono fun _ _ ⟨he, hm⟩ => ⟨he, n, hm⟩
theorem rotr_int (x : UInt32) (n : Nat) : bits .or .u32 ((x.toNat : Int) / 2 ^ n) ((x.toNat : Int) * 2 ^ (32 - n) % 4294967296) = ((rotr x n).toNat : Int) := by
  have h1 : (x.toNat : Int) / 2 ^ n = ((x.toNat / 2 ^ n : Nat) : Int) := by rw [Int.natCast_ediv, Int.natCast_pow]; rfl
  have h2 : (x.toNat : Int) * 2 ^ (32 - n) % 4294967296 = ((x.toNat * 2 ^ (32 - n) % 4294967296 : Nat) : Int) := by rw [Int.natCast_emod, Int.natCast_mul, Int.natCast_pow]; rfl
  rw [rotr_nat, h1, h2]
  exact bits_word_or _ _ (Nat.lt_of_le_of_lt (Nat.div_le_self _ _) (w_lt x)) (Nat.mod_lt _ (by decide))
theorem turn_any (x : UInt32) (n : Nat) (hn : n ≤ 32) (w : World) :
    Calls Tryd.prog 21 #[.int .u32 (x.toNat : Int), .int .u64 (n : Int)] w fun e w' => e = .returned (.int .u32 ((rotr x n).toNat : Int)) ∧ w = w' := by
  have hx := w_lt x
  go_enter Tryd.func21, Tryd.ntmps21
  go_wp2
  go_ret
  exact ⟨ret_int (rotr_int x n), rfl⟩
theorem turn_quiet (x : UInt32) (n : Nat) (hn : n ≤ 32) (w : World) :
    Calls Tryd.prog 21 #[.int .u32 (x.toNat : Int), .int .u64 (n : Int)] w fun e w' => e = .returned (.int .u32 ((rotr x n).toNat : Int)) ∧ w' = w := (turn_any x n hn w).mono fun _ _ h => ⟨h.1, h.2.symm⟩
theorem turn_q (x : UInt32) (n : Int) (h0 : 0 ≤ n) (hn : n ≤ 32) (w : World) :
    Calls Tryd.prog 21 #[.int .u32 (x.toNat : Int), .int .u64 n] w fun e w' => e = .returned (.int .u32 ((rotr x n.toNat).toNat : Int)) ∧ w' = w := by
  have h : (n.toNat : Int) = n := by omega
  have := turn_quiet x n.toNat (by omega) w
  rw [h] at this; exact this
end Go.Proofs.YtdflghphjhejdaaDoor
