/- text.Equal by its loop. -/
import Derived.Test.YtahgcnoaflamfaaLeaf
namespace Go.Proofs.Ytahgcnoaflamfaa
open Go.RowKit

theorem wraps_i64 (n : Int) (h₀ : 0 ≤ n) (h₁ : n < 2 ^ 63) : IntKind.i64.wrap n = n := by rw [IntKind.wrap_i64]; omega
theorem bits_xor_nat (k : IntKind) (j : Nat) (hj : j ≤ k.bits) (hk : ∀ n : Int, 0 ≤ n → n < 2 ^ j → k.wrap n = n) (a b : Nat) (ha : a < 2 ^ j) (hb : b < 2 ^ j) :
    bits .xor k a b = ((a ^^^ b : Nat) : Int) := by
  have hp : 2 ^ j ≤ 2 ^ k.bits := Nat.pow_le_pow_right (by decide) hj
  have ha' : a % 2 ^ k.bits = a := Nat.mod_eq_of_lt (Nat.lt_of_lt_of_le ha hp)
  have hb' : b % 2 ^ k.bits = b := Nat.mod_eq_of_lt (Nat.lt_of_lt_of_le hb hp)
  simp only [bits, BitVec.ofInt_natCast, BitVec.toNat_xor, BitVec.toNat_ofNat, ha', hb']
  exact hk _ (Int.natCast_nonneg _) (by exact_mod_cast Nat.xor_lt_two_pow ha hb)

theorem xor_zero_iff (a b : Nat) : a ^^^ b = 0 ↔ a = b := by
  constructor
  · intro h
    refine Nat.eq_of_testBit_eq fun i => ?_
    have := congrArg (fun n => n.testBit i) h
    simp only [Nat.testBit_xor, Nat.zero_testBit] at this
    revert this; cases a.testBit i <;> cases b.testBit i <;> simp
  · rintro rfl; exact Nat.xor_self a

/-- the lists are of one length, and alike up to k -/
def Alike (a b : List UInt8) (k : Nat) : Prop := a.length = b.length ∧ a.take k = b.take k
/-- what the loop holds: 0 just where they are alike so far -/
def Held (a b : List UInt8) (k : Nat) (U : Int) : Prop := 0 ≤ U ∧ U < 2 ^ 63 ∧ (U = 0 ↔ Alike a b k)

theorem held_start (a b : List UInt8) (ha : a.length < 2 ^ 63) (hb : b.length < 2 ^ 63) : Held a b 0 (bits .xor .i64 a.length b.length) := by
  rw [bits_xor_nat .i64 63 (by decide) wraps_i64 _ _ ha hb]
  refine ⟨Int.natCast_nonneg _, by exact_mod_cast Nat.xor_lt_two_pow ha hb, ?_⟩
  simp only [Alike, List.take_zero, and_true]
  rw [Int.natCast_eq_zero]
  exact xor_zero_iff _ _

theorem take_succ' (l : List UInt8) (k : Nat) (h : k < l.length) : l.take (k + 1) = l.take k ++ [l[k]] := List.take_succ_eq_append_getElem h

theorem held_in (a b : List UInt8) (k : Nat) (U : Int) (h : Held a b k U) (ha : k < a.length) (hb : k < b.length) :
    Held a b (k + 1) (bits .or .i64 U (wrap64 (bits .xor .u8 (a[k].toNat : Int) (b[k].toNat : Int)))) := by
  obtain ⟨h0, h1, h2⟩ := h
  obtain ⟨u, rfl⟩ := Int.eq_ofNat_of_zero_le h0
  have hu : u < 2 ^ 63 := by exact_mod_cast h1
  have x8 := a[k].toNat_lt
  have y8 := b[k].toNat_lt
  rw [u8_xor_nat _ _ x8 y8]
  have hx : a[k].toNat ^^^ b[k].toNat < 2 ^ 63 := Nat.lt_trans (Nat.xor_lt_two_pow (n := 8) x8 y8) (by decide)
  rw [IntWalk.wrap64_in _ ⟨by omega, by omega⟩]
  rw [(bits_nat .i64 63 (by decide) wraps_i64 u _ hu hx).2]
  refine ⟨Int.natCast_nonneg _, by exact_mod_cast Nat.or_lt_two_pow hu hx, ?_⟩
  rw [Int.natCast_eq_zero, Nat.or_eq_zero_iff, xor_zero_iff]
  rw [Int.natCast_eq_zero] at h2
  rw [h2]
  unfold Alike
  rw [take_succ' a k ha, take_succ' b k hb]
  constructor
  · rintro ⟨⟨hl, ht⟩, he⟩
    exact ⟨hl, by rw [ht, UInt8.toNat_inj.1 he]⟩
  · rintro ⟨hl, ht⟩
    have := List.append_inj ht (by simp; omega)
    exact ⟨⟨hl, this.1⟩, by simpa using congrArg (fun l => l.map UInt8.toNat) this.2⟩

theorem held_out (a b : List UInt8) (k : Nat) (U : Int) (h : Held a b k U) (ha : k < a.length) (hb : b.length ≤ k) :
    Held a b (k + 1) (bits .or .i64 U (wrap64 (bits .xor .u8 (a[k].toNat : Int) 0))) := by
  obtain ⟨h0, h1, h2⟩ := h
  obtain ⟨u, rfl⟩ := Int.eq_ofNat_of_zero_le h0
  have hu : u < 2 ^ 63 := by exact_mod_cast h1
  have x8 := a[k].toNat_lt
  have e0 : bits .xor .u8 (a[k].toNat : Int) 0 = ((a[k].toNat ^^^ 0 : Nat) : Int) := u8_xor_nat _ 0 x8 (by decide)
  rw [e0]
  have hx : a[k].toNat ^^^ 0 < 2 ^ 63 := Nat.lt_trans (Nat.xor_lt_two_pow (n := 8) x8 (by decide)) (by decide)
  rw [IntWalk.wrap64_in _ ⟨by omega, by omega⟩]
  rw [(bits_nat .i64 63 (by decide) wraps_i64 u _ hu hx).2]
  refine ⟨Int.natCast_nonneg _, by exact_mod_cast Nat.or_lt_two_pow hu hx, ?_⟩
  rw [Int.natCast_eq_zero, Nat.or_eq_zero_iff]
  rw [Int.natCast_eq_zero] at h2
  rw [h2]
  unfold Alike
  constructor
  · rintro ⟨⟨hl, _⟩, _⟩; omega
  · rintro ⟨hl, _⟩; omega

def eqB (a b : ByteArray) : Bool := decide (a.data.toList = b.data.toList)

theorem held_end (a b : ByteArray) (U : Int) (h : Held a.data.toList b.data.toList a.size U) : (U == 0) = eqB a b := by
  rw [Bool.eq_iff_iff]
  unfold eqB
  simp only [beq_iff_eq, decide_eq_true_iff]
  rw [h.2.2]
  unfold Alike
  have hs : a.data.toList.length = a.size := rfl
  constructor
  · rintro ⟨hl, ht⟩
    rw [List.take_of_length_le (by omega), List.take_of_length_le (by omega)] at ht
    exact ht
  · intro h; rw [h]; exact ⟨rfl, rfl⟩

set_option maxRecDepth 100000 in
theorem equal_any (a b : ByteArray) (ha : a.size ≤ maxLen) (hb : b.size ≤ maxLen) (w : World) :
    Calls Try.prog 15 #[.string a, .string b] w fun e w' => e = .returned (.bool (eqB a b)) ∧ w = w' := by
  unfold maxLen at ha hb
  have hstart := held_start a.data.toList b.data.toList (show a.size < 2 ^ 63 by omega) (show b.size < 2 ^ 63 by omega)
  have HS := Lib.hid hstart; clear hstart
  go_enter Try.func15, Try.ntmps15
  go_wp2
  go_loop [5, 15] (fun u i => ∃ (k : Nat) (U : Int), k ≤ a.size ∧ i = .int .i64 k ∧ u = .int .i64 U ∧ Held a.data.toList b.data.toList k U) (fun _ i => a.size - (intOf i).toNat)
  case atStart => exact ⟨0, _, Nat.zero_le _, rfl, rfl, HS.out⟩
  case round =>
    obtain ⟨k, U, hk, rfl, rfl, hh⟩ := hrel
    have HH := Lib.hid hh; clear hh
    by_cases hlt : k < a.size
    · by_cases hltb : k < b.size
      · go_wp2
        go_round
        case rel => exact ⟨k + 1, _, by omega, by go_num, rfl, held_in _ _ k U HH.out hlt hltb⟩
        case measure => simp [intOf]; omega
      · go_wp2
        go_round
        case rel => exact ⟨k + 1, _, by omega, by go_num, rfl, held_out _ _ k U HH.out hlt (Nat.le_of_not_lt hltb)⟩
        case measure => simp [intOf]; omega
    · go_wp2
      go_ret
      have hke : k = a.size := by omega
      subst hke
      exact ⟨ret_bool (held_end a b U HH.out), rfl⟩
end Go.Proofs.Ytahgcnoaflamfaa
