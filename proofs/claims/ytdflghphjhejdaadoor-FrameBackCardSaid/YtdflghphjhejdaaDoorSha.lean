/- SHA-256 as functions of lists and words: nothing of the program. -/
import Derived.Test.YtdflghphjhejdaaDoorBase
namespace Go.Proofs.YtdflghphjhejdaaDoor
open Go.RowKit

/-! ## words: what the model's operations on uint32 are at words -/
def rotr (x : UInt32) (n : Nat) : UInt32 := UInt32.ofNat (x.toNat / 2 ^ n ||| x.toNat * 2 ^ (32 - n) % 4294967296)
/-- the operations on words, behind names (simp knows how UInt32's own ones read as numbers, and would turn the rules below back) -/
def addW (x y : UInt32) : UInt32 := x + y
def xorW (x y : UInt32) : UInt32 := x ^^^ y
def andW (x y : UInt32) : UInt32 := x &&& y
def orW (x y : UInt32) : UInt32 := x ||| y
def notW (x : UInt32) : UInt32 := xorW 4294967295 x
/-- a word of a number -/
def natW (n : Nat) : UInt32 := UInt32.ofNat n
theorem natW_nat (n : Nat) (h : n < 4294967296) : (natW n).toNat = n := by
  unfold natW; rw [UInt32.toNat_ofNat']; exact Nat.mod_eq_of_lt h
theorem w_lt (x : UInt32) : x.toNat < 4294967296 := x.toNat_lt
theorem or_lt32 (a b : Nat) (ha : a < 4294967296) (hb : b < 4294967296) : a ||| b < 4294967296 := Nat.or_lt_two_pow (n := 32) ha hb
theorem bits_word_or (a b : Nat) (ha : a < 4294967296) (hb : b < 4294967296) : bits .or .u32 (a : Int) (b : Int) = ((a ||| b : Nat) : Int) :=
  (bits_nat .u32 32 (by decide) (fun n h0 h1 => by rw [IntKind.wrap_u32]; omega) a b ha hb).2
theorem bits_word_and (a b : Nat) (ha : a < 4294967296) (hb : b < 4294967296) : bits .and .u32 (a : Int) (b : Int) = ((a &&& b : Nat) : Int) :=
  (bits_nat .u32 32 (by decide) (fun n h0 h1 => by rw [IntKind.wrap_u32]; omega) a b ha hb).1
theorem rotr_nat (x : UInt32) (n : Nat) : (rotr x n).toNat = x.toNat / 2 ^ n ||| x.toNat * 2 ^ (32 - n) % 4294967296 := by
  unfold rotr
  rw [UInt32.toNat_ofNat']
  exact Nat.mod_eq_of_lt (or_lt32 _ _ (Nat.lt_of_le_of_lt (Nat.div_le_self _ _) (w_lt x)) (Nat.mod_lt _ (by decide)))
theorem w_add (x y : UInt32) : ((x.toNat : Int) + (y.toNat : Int)) % 4294967296 = ((addW x y).toNat : Int) := by unfold addW; rw [UInt32.toNat_add]; omega
theorem w_and (x y : UInt32) : bits .and .u32 (x.toNat : Int) (y.toNat : Int) = ((andW x y).toNat : Int) := by
  unfold andW; rw [bits_word_and _ _ (w_lt x) (w_lt y), UInt32.toNat_and]
theorem w_xor (x y : UInt32) : bits .xor .u32 (x.toNat : Int) (y.toNat : Int) = ((xorW x y).toNat : Int) := by
  unfold xorW; rw [bits_xor_nat .u32 32 (by decide) (fun n h0 h1 => by rw [IntKind.wrap_u32]; omega) _ _ (w_lt x) (w_lt y), UInt32.toNat_xor]
theorem w_or (x y : UInt32) : bits .or .u32 (x.toNat : Int) (y.toNat : Int) = ((orW x y).toNat : Int) := by
  unfold orW; rw [bits_word_or _ _ (w_lt x) (w_lt y), UInt32.toNat_or]

theorem w_not (x : UInt32) : bits .xor .u32 IntKind.u32.max (x.toNat : Int) = ((notW x).toNat : Int) := w_xor 4294967295 x

/-! ## the sum -/
def kL : List UInt32 := [0x428a2f98, 0x71374491, 0xb5c0fbcf, 0xe9b5dba5, 0x3956c25b, 0x59f111f1, 0x923f82a4, 0xab1c5ed5,
  0xd807aa98, 0x12835b01, 0x243185be, 0x550c7dc3, 0x72be5d74, 0x80deb1fe, 0x9bdc06a7, 0xc19bf174,
  0xe49b69c1, 0xefbe4786, 0x0fc19dc6, 0x240ca1cc, 0x2de92c6f, 0x4a7484aa, 0x5cb0a9dc, 0x76f988da,
  0x983e5152, 0xa831c66d, 0xb00327c8, 0xbf597fc7, 0xc6e00bf3, 0xd5a79147, 0x06ca6351, 0x14292967,
  0x27b70a85, 0x2e1b2138, 0x4d2c6dfc, 0x53380d13, 0x650a7354, 0x766a0abb, 0x81c2c92e, 0x92722c85,
  0xa2bfe8a1, 0xa81a664b, 0xc24b8b70, 0xc76c51a3, 0xd192e819, 0xd6990624, 0xf40e3585, 0x106aa070,
  0x19a4c116, 0x1e376c08, 0x2748774c, 0x34b0bcb5, 0x391c0cb3, 0x4ed8aa4a, 0x5b9cca4f, 0x682e6ff3,
  0x748f82ee, 0x78a5636f, 0x84c87814, 0x8cc70208, 0x90befffa, 0xa4506ceb, 0xbef9a3f7, 0xc67178f2]
def kAt (i : Nat) : UInt32 := kL.getD i 0
structure S8 where
  a : UInt32
  b : UInt32
  c : UInt32
  d : UInt32
  e : UInt32
  f : UInt32
  g : UInt32
  h : UInt32
def h0 : S8 := ⟨0x6a09e667, 0xbb67ae85, 0x3c6ef372, 0xa54ff53a, 0x510e527f, 0x9b05688c, 0x1f83d9ab, 0x5be0cd19⟩
def lo0 (x : UInt32) : UInt32 := xorW (xorW (rotr x 7) (rotr x 18)) (natW (x.toNat / 8))
def lo1 (x : UInt32) : UInt32 := xorW (xorW (rotr x 17) (rotr x 19)) (natW (x.toNat / 1024))
def up1 (e : UInt32) : UInt32 := xorW (xorW (rotr e 6) (rotr e 11)) (rotr e 25)
def up0 (a : UInt32) : UInt32 := xorW (xorW (rotr a 2) (rotr a 13)) (rotr a 22)
def chW (e f g : UInt32) : UInt32 := xorW (andW e f) (andW (notW e) g)
def majW (a b c : UInt32) : UInt32 := xorW (xorW (andW a b) (andW a c)) (andW b c)
/-- a word out of four bytes -/
def wordL (b : List UInt8) (q : Nat) : UInt32 := UInt32.ofNat ((b.getD q 0).toNat * 16777216 + (b.getD (q + 1) 0).toNat * 65536 + (b.getD (q + 2) 0).toNat * 256 + (b.getD (q + 3) 0).toNat)
/-- the first words of a block's schedule; the block's bytes stand at p -/
def schedL (b : List UInt8) (p : Nat) : Nat → List UInt32
  | 0 => []
  | i + 1 => schedL b p i ++ [if i < 16 then wordL b (p + 4 * i) else
      addW (addW (addW ((schedL b p i).getD (i - 16) 0) (lo0 ((schedL b p i).getD (i - 15) 0))) ((schedL b p i).getD (i - 7) 0)) (lo1 ((schedL b p i).getD (i - 2) 0))]
theorem schedL_len (b : List UInt8) (p i : Nat) : (schedL b p i).length = i := by
  induction i with
  | zero => rfl
  | succ i ih => simp [schedL, ih]
def schedW (b : List UInt8) (p i : Nat) : UInt32 := (schedL b p (i + 1)).getD i 0
theorem schedL_at (b : List UInt8) (p : Nat) : ∀ (n i : Nat), i < n → (schedL b p n).getD i 0 = schedW b p i
  | 0, _, h => absurd h (Nat.not_lt_zero _)
  | n + 1, i, h => by
    rcases Nat.lt_succ_iff_lt_or_eq.1 h with h' | h'
    · rw [← schedL_at b p n i h', schedL]
      have hl : i < (schedL b p n).length := by rw [schedL_len]; exact h'
      simp [List.getD, List.getElem?_append, hl]
    · subst h'; rfl
theorem schedW_first (b : List UInt8) (p i : Nat) (h : i < 16) : schedW b p i = wordL b (p + 4 * i) := by
  unfold schedW schedL
  rw [if_pos h]
  simp [List.getD, schedL_len]
theorem schedW_next (b : List UInt8) (p i : Nat) (h : 16 ≤ i) : schedW b p i = addW (addW (addW (schedW b p (i - 16)) (lo0 (schedW b p (i - 15)))) (schedW b p (i - 7))) (lo1 (schedW b p (i - 2))) := by
  have e : schedW b p i = addW (addW (addW ((schedL b p i).getD (i - 16) 0) (lo0 ((schedL b p i).getD (i - 15) 0))) ((schedL b p i).getD (i - 7) 0)) (lo1 ((schedL b p i).getD (i - 2) 0)) := by
    unfold schedW
    rw [schedL, if_neg (by omega)]
    simp [List.getD, schedL_len]
  rw [e, schedL_at b p i _ (by omega), schedL_at b p i _ (by omega), schedL_at b p i _ (by omega), schedL_at b p i _ (by omega)]
/-- one round -/
def t1W (s : S8) (k w : UInt32) : UInt32 := addW (addW (addW (addW s.h (up1 s.e)) (chW s.e s.f s.g)) k) w
def t2W (s : S8) : UInt32 := addW (up0 s.a) (majW s.a s.b s.c)
def roundW (s : S8) (k w : UInt32) : S8 := ⟨addW (t1W s k w) (t2W s), s.a, s.b, s.c, addW s.d (t1W s k w), s.e, s.f, s.g⟩
def roundsW (b : List UInt8) (p : Nat) (s : S8) : Nat → S8
  | 0 => s
  | i + 1 => roundW (roundsW b p s i) (kAt i) (schedW b p i)
def addS (s t : S8) : S8 := ⟨addW s.a t.a, addW s.b t.b, addW s.c t.c, addW s.d t.d, addW s.e t.e, addW s.f t.f, addW s.g t.g, addW s.h t.h⟩
def blockW (b : List UInt8) (p : Nat) (s : S8) : S8 := addS s (roundsW b p s 64)
def blocksW (b : List UInt8) : Nat → S8
  | 0 => h0
  | j + 1 => blockW b (64 * j) (blocksW b j)
def byte4 (x : UInt32) : List UInt8 := [UInt8.ofNat (x.toNat / 16777216), UInt8.ofNat (x.toNat / 65536), UInt8.ofNat (x.toNat / 256), UInt8.ofNat x.toNat]
def outL (s : S8) : List UInt8 := byte4 s.a ++ byte4 s.b ++ byte4 s.c ++ byte4 s.d ++ byte4 s.e ++ byte4 s.f ++ byte4 s.g ++ byte4 s.h
/-- how many zeros follow -/
def zerosN (n : Nat) : Nat := (119 - n % 64) % 64
def lenL (n : Nat) : List UInt8 := (List.range 8).map fun i => UInt8.ofNat (8 * n / 256 ^ (7 - i))
def padL (l : List UInt8) : List UInt8 := l ++ [128] ++ List.replicate (zerosN l.length) 0 ++ lenL l.length
theorem padL_len (l : List UInt8) : (padL l).length = l.length + 1 + zerosN l.length + 8 ∧ (padL l).length % 64 = 0 := by
  have h : (padL l).length = l.length + 1 + zerosN l.length + 8 := by simp [padL, lenL]; omega
  refine ⟨h, ?_⟩
  rw [h]; unfold zerosN; omega
def sumL (l : List UInt8) : List UInt8 := outL (blocksW (padL l) ((padL l).length / 64))
theorem outL_len (s : S8) : (outL s).length = 32 := rfl
end Go.Proofs.YtdflghphjhejdaaDoor
