/- Texts merged by program, in build order: Sha, FramePure, RdAt, Turn, Arr, MBuf, Code. -/
import Derived.Test.YtkbjpgfdmkmbmaaDoorG01
import Derived.WalkKit
import Derived.Laws.Tables
import Derived.Deep.WholeRow
import Derived.Deep.Draws
import Derived.Deep.MidRow
import Derived.Room.Entries
import Derived.ArgAppend
set_option linter.unusedVariables false
set_option linter.unusedSimpArgs false
namespace Go.Proofs.YtkbjpgfdmkmbmaaDoor
open Go.RowKit

/-! ## words: what the model's operations on uint32 are at words -/
def rotr (x : UInt32) (n : Nat) : UInt32 := UInt32.ofNat (x.toNat / 2 ^ n ||| x.toNat * 2 ^ (32 - n) % 4294967296)
/-- the operations on words, behind names (simp knows how UInt32's own ones read as numbers, and would turn the rules below back) -/
def addW (x y : UInt32) : UInt32 := x + y
def xorW (x y : UInt32) : UInt32 := x ^^^ y
def andW (x y : UInt32) : UInt32 := x &&& y
def orW (x y : UInt32) : UInt32 := x ||| y
def notW (x : UInt32) : UInt32 := xorW 4294967295 x
/-- a word of a number -/
def natW (n : Nat) : UInt32 := UInt32.ofNat n
theorem natW_nat (n : Nat) (h : n < 4294967296) : (natW n).toNat = n := by
  unfold natW; rw [UInt32.toNat_ofNat']; exact Nat.mod_eq_of_lt h
theorem w_lt (x : UInt32) : x.toNat < 4294967296 := x.toNat_lt
theorem or_lt32 (a b : Nat) (ha : a < 4294967296) (hb : b < 4294967296) : a ||| b < 4294967296 := Nat.or_lt_two_pow (n := 32) ha hb
theorem bits_word_or (a b : Nat) (ha : a < 4294967296) (hb : b < 4294967296) : bits .or .u32 (a : Int) (b : Int) = ((a ||| b : Nat) : Int) :=
  (bits_nat .u32 32 (by decide) (fun n h0 h1 => by rw [IntKind.wrap_u32]; omega) a b ha hb).2
theorem bits_word_and (a b : Nat) (ha : a < 4294967296) (hb : b < 4294967296) : bits .and .u32 (a : Int) (b : Int) = ((a &&& b : Nat) : Int) :=
  (bits_nat .u32 32 (by decide) (fun n h0 h1 => by rw [IntKind.wrap_u32]; omega) a b ha hb).1
theorem rotr_nat (x : UInt32) (n : Nat) : (rotr x n).toNat = x.toNat / 2 ^ n ||| x.toNat * 2 ^ (32 - n) % 4294967296 := by
  unfold rotr
  rw [UInt32.toNat_ofNat']
  exact Nat.mod_eq_of_lt (or_lt32 _ _ (Nat.lt_of_le_of_lt (Nat.div_le_self _ _) (w_lt x)) (Nat.mod_lt _ (by decide)))
theorem w_add (x y : UInt32) : ((x.toNat : Int) + (y.toNat : Int)) % 4294967296 = ((addW x y).toNat : Int) := by unfold addW; rw [UInt32.toNat_add]; omega
theorem w_and (x y : UInt32) : bits .and .u32 (x.toNat : Int) (y.toNat : Int) = ((andW x y).toNat : Int) := by
  unfold andW; rw [bits_word_and _ _ (w_lt x) (w_lt y), UInt32.toNat_and]
theorem w_xor (x y : UInt32) : bits .xor .u32 (x.toNat : Int) (y.toNat : Int) = ((xorW x y).toNat : Int) := by
  unfold xorW; rw [bits_xor_nat .u32 32 (by decide) (fun n h0 h1 => by rw [IntKind.wrap_u32]; omega) _ _ (w_lt x) (w_lt y), UInt32.toNat_xor]
theorem w_or (x y : UInt32) : bits .or .u32 (x.toNat : Int) (y.toNat : Int) = ((orW x y).toNat : Int) := by
  unfold orW; rw [bits_word_or _ _ (w_lt x) (w_lt y), UInt32.toNat_or]

theorem w_not (x : UInt32) : bits .xor .u32 IntKind.u32.max (x.toNat : Int) = ((notW x).toNat : Int) := w_xor 4294967295 x

/-! ## the sum -/
def kL : List UInt32 := [0x428a2f98, 0x71374491, 0xb5c0fbcf, 0xe9b5dba5, 0x3956c25b, 0x59f111f1, 0x923f82a4, 0xab1c5ed5,
  0xd807aa98, 0x12835b01, 0x243185be, 0x550c7dc3, 0x72be5d74, 0x80deb1fe, 0x9bdc06a7, 0xc19bf174,
  0xe49b69c1, 0xefbe4786, 0x0fc19dc6, 0x240ca1cc, 0x2de92c6f, 0x4a7484aa, 0x5cb0a9dc, 0x76f988da,
  0x983e5152, 0xa831c66d, 0xb00327c8, 0xbf597fc7, 0xc6e00bf3, 0xd5a79147, 0x06ca6351, 0x14292967,
  0x27b70a85, 0x2e1b2138, 0x4d2c6dfc, 0x53380d13, 0x650a7354, 0x766a0abb, 0x81c2c92e, 0x92722c85,
  0xa2bfe8a1, 0xa81a664b, 0xc24b8b70, 0xc76c51a3, 0xd192e819, 0xd6990624, 0xf40e3585, 0x106aa070,
  0x19a4c116, 0x1e376c08, 0x2748774c, 0x34b0bcb5, 0x391c0cb3, 0x4ed8aa4a, 0x5b9cca4f, 0x682e6ff3,
  0x748f82ee, 0x78a5636f, 0x84c87814, 0x8cc70208, 0x90befffa, 0xa4506ceb, 0xbef9a3f7, 0xc67178f2]
def kAt (i : Nat) : UInt32 := kL.getD i 0
structure S8 where
  a : UInt32
  b : UInt32
  c : UInt32
  d : UInt32
  e : UInt32
  f : UInt32
  g : UInt32
  h : UInt32
def h0 : S8 := ⟨0x6a09e667, 0xbb67ae85, 0x3c6ef372, 0xa54ff53a, 0x510e527f, 0x9b05688c, 0x1f83d9ab, 0x5be0cd19⟩
def lo0 (x : UInt32) : UInt32 := xorW (xorW (rotr x 7) (rotr x 18)) (natW (x.toNat / 8))
def lo1 (x : UInt32) : UInt32 := xorW (xorW (rotr x 17) (rotr x 19)) (natW (x.toNat / 1024))
def up1 (e : UInt32) : UInt32 := xorW (xorW (rotr e 6) (rotr e 11)) (rotr e 25)
def up0 (a : UInt32) : UInt32 := xorW (xorW (rotr a 2) (rotr a 13)) (rotr a 22)
def chW (e f g : UInt32) : UInt32 := xorW (andW e f) (andW (notW e) g)
def majW (a b c : UInt32) : UInt32 := xorW (xorW (andW a b) (andW a c)) (andW b c)
/-- a word out of four bytes -/
def wordL (b : List UInt8) (q : Nat) : UInt32 := UInt32.ofNat ((b.getD q 0).toNat * 16777216 + (b.getD (q + 1) 0).toNat * 65536 + (b.getD (q + 2) 0).toNat * 256 + (b.getD (q + 3) 0).toNat)
/-- the first words of a block's schedule; the block's bytes stand at p -/
def schedL (b : List UInt8) (p : Nat) : Nat → List UInt32
  | 0 => []
  | i + 1 => schedL b p i ++ [if i < 16 then wordL b (p + 4 * i) else
      addW (addW (addW ((schedL b p i).getD (i - 16) 0) (lo0 ((schedL b p i).getD (i - 15) 0))) ((schedL b p i).getD (i - 7) 0)) (lo1 ((schedL b p i).getD (i - 2) 0))]
theorem schedL_len (b : List UInt8) (p i : Nat) : (schedL b p i).length = i := by
  induction i with
  | zero => rfl
  | succ i ih => simp [schedL, ih]
def schedW (b : List UInt8) (p i : Nat) : UInt32 := (schedL b p (i + 1)).getD i 0
theorem schedL_at (b : List UInt8) (p : Nat) : ∀ (n i : Nat), i < n → (schedL b p n).getD i 0 = schedW b p i
  | 0, _, h => absurd h (Nat.not_lt_zero _)
  | n + 1, i, h => by
    rcases Nat.lt_succ_iff_lt_or_eq.1 h with h' | h'
    · rw [← schedL_at b p n i h', schedL]
      have hl : i < (schedL b p n).length := by rw [schedL_len]; exact h'
      simp [List.getD, List.getElem?_append, hl]
    · subst h'; rfl
theorem schedW_first (b : List UInt8) (p i : Nat) (h : i < 16) : schedW b p i = wordL b (p + 4 * i) := by
  unfold schedW schedL
  rw [if_pos h]
  simp [List.getD, schedL_len]
theorem schedW_next (b : List UInt8) (p i : Nat) (h : 16 ≤ i) : schedW b p i = addW (addW (addW (schedW b p (i - 16)) (lo0 (schedW b p (i - 15)))) (schedW b p (i - 7))) (lo1 (schedW b p (i - 2))) := by
  have e : schedW b p i = addW (addW (addW ((schedL b p i).getD (i - 16) 0) (lo0 ((schedL b p i).getD (i - 15) 0))) ((schedL b p i).getD (i - 7) 0)) (lo1 ((schedL b p i).getD (i - 2) 0)) := by
    unfold schedW
    rw [schedL, if_neg (by omega)]
    simp [List.getD, schedL_len]
  rw [e, schedL_at b p i _ (by omega), schedL_at b p i _ (by omega), schedL_at b p i _ (by omega), schedL_at b p i _ (by omega)]
/-- one round -/
def t1W (s : S8) (k w : UInt32) : UInt32 := addW (addW (addW (addW s.h (up1 s.e)) (chW s.e s.f s.g)) k) w
def t2W (s : S8) : UInt32 := addW (up0 s.a) (majW s.a s.b s.c)
def roundW (s : S8) (k w : UInt32) : S8 := ⟨addW (t1W s k w) (t2W s), s.a, s.b, s.c, addW s.d (t1W s k w), s.e, s.f, s.g⟩
def roundsW (b : List UInt8) (p : Nat) (s : S8) : Nat → S8
  | 0 => s
  | i + 1 => roundW (roundsW b p s i) (kAt i) (schedW b p i)
def addS (s t : S8) : S8 := ⟨addW s.a t.a, addW s.b t.b, addW s.c t.c, addW s.d t.d, addW s.e t.e, addW s.f t.f, addW s.g t.g, addW s.h t.h⟩
def blockW (b : List UInt8) (p : Nat) (s : S8) : S8 := addS s (roundsW b p s 64)
def blocksW (b : List UInt8) : Nat → S8
  | 0 => h0
  | j + 1 => blockW b (64 * j) (blocksW b j)
def byte4 (x : UInt32) : List UInt8 := [UInt8.ofNat (x.toNat / 16777216), UInt8.ofNat (x.toNat / 65536), UInt8.ofNat (x.toNat / 256), UInt8.ofNat x.toNat]
def outL (s : S8) : List UInt8 := byte4 s.a ++ byte4 s.b ++ byte4 s.c ++ byte4 s.d ++ byte4 s.e ++ byte4 s.f ++ byte4 s.g ++ byte4 s.h
/-- how many zeros follow -/
def zerosN (n : Nat) : Nat := (119 - n % 64) % 64
def lenL (n : Nat) : List UInt8 := (List.range 8).map fun i => UInt8.ofNat (8 * n / 256 ^ (7 - i))
def padL (l : List UInt8) : List UInt8 := l ++ [128] ++ List.replicate (zerosN l.length) 0 ++ lenL l.length
theorem padL_len (l : List UInt8) : (padL l).length = l.length + 1 + zerosN l.length + 8 ∧ (padL l).length % 64 = 0 := by
  have h : (padL l).length = l.length + 1 + zerosN l.length + 8 := by simp [padL, lenL]; omega
  refine ⟨h, ?_⟩
  rw [h]; unfold zerosN; omega
def sumL (l : List UInt8) : List UInt8 := outL (blocksW (padL l) ((padL l).length / 64))
theorem outL_len (s : S8) : (outL s).length = 32 := rfl
end Go.Proofs.YtkbjpgfdmkmbmaaDoor
namespace Go.Proofs.YtkbjpgfdmkmbmaaDoor

/-- a number in four bytes, the highest first -/
def four (n : Nat) : List UInt8 := [UInt8.ofNat (n / 16777216), UInt8.ofNat (n / 65536), UInt8.ofNat (n / 256), UInt8.ofNat n]
def b4 (l : List UInt8) (i : Nat) : Nat := (l.getD i 0).toNat
/-- the number in the first four -/
def num4 (l : List UInt8) : Nat := b4 l 0 * 16777216 + b4 l 1 * 65536 + b4 l 2 * 256 + b4 l 3
theorem four_len (n : Nat) : (four n).length = 4 := rfl
theorem num4_four (n : Nat) (t : List UInt8) (h : n < 4294967296) : num4 (four n ++ t) = n := by
  unfold num4 four b4
  simp only [List.cons_append, List.getD_cons_zero, List.getD_cons_succ, UInt8.toNat_ofNat']
  omega
theorem num4_lt (l : List UInt8) : num4 l < 4294967296 := by
  unfold num4 b4
  have h := fun i => (l.getD i 0).toNat_lt
  have := h 0; have := h 1; have := h 2; have := h 3
  omega
theorem num4_take (l : List UInt8) (k : Nat) (h : 4 ≤ k) : num4 (l.take k) = num4 l := by
  have e : ∀ i, i < 4 → b4 (l.take k) i = b4 l i := fun i hi => by
    unfold b4
    rw [List.getD_eq_getElem?_getD, List.getD_eq_getElem?_getD, List.getElem?_take, if_pos (by omega)]
  unfold num4
  rw [e 0 (by omega), e 1 (by omega), e 2 (by omega), e 3 (by omega)]
def markF (b : List UInt8) : List UInt8 := (sumL (four b.length ++ b)).take 4
theorem sum_len (l : List UInt8) : (sumL l).length = 32 := rfl
theorem markF_len (b : List UInt8) : (markF b).length = 4 := by unfold markF; rw [List.length_take, sum_len]; rfl
def frameL (b : List UInt8) : List UInt8 := four b.length ++ markF b ++ b
theorem frameL_len (b : List UInt8) : (frameL b).length = 8 + b.length := by
  unfold frameL
  rw [List.length_append, List.length_append, markF_len, four_len]
theorem frameL_drop (b : List UInt8) : (frameL b).drop 8 = b := by
  unfold frameL
  exact List.drop_left' (by rw [List.length_append, markF_len, four_len])
theorem num4_frame (b t : List UInt8) (h : b.length < 4294967296) : num4 (frameL b ++ t) = b.length := by
  unfold frameL
  rw [List.append_assoc, List.append_assoc]
  exact num4_four _ _ h
/-- how many bytes the frame at the front has in it -/
def firstL (l : List UInt8) : Option Nat :=
  if 8 ≤ l.length ∧ num4 l ≤ 32768 ∧ num4 l ≤ l.length - 8 ∧ frameL ((l.drop 8).take (num4 l)) = l.take (8 + num4 l) then some (num4 l) else none
theorem firstL_some {l : List UInt8} {n : Nat} (h : firstL l = some n) : 8 + n ≤ l.length ∧ n ≤ 32768 ∧ n = num4 l ∧ frameL ((l.drop 8).take n) = l.take (8 + n) := by
  unfold firstL at h
  split at h
  · rename_i hc
    obtain ⟨h1, h2, h3, h4⟩ := hc
    injection h with h
    subst h
    exact ⟨by omega, h2, rfl, h4⟩
  · cases h
def splitF : Nat → List UInt8 → List (List UInt8) × Nat
  | 0, _ => ([], 0)
  | f + 1, l => match firstL l with
    | none => ([], 0)
    | some n => ((l.drop 8).take n :: (splitF f (l.drop (8 + n))).1, 8 + n + (splitF f (l.drop (8 + n))).2)
theorem splitF_fuel : ∀ (f g : Nat) (l : List UInt8), l.length ≤ f → l.length ≤ g → splitF f l = splitF g l
  | 0, 0, _, _, _ => rfl
  | 0, g + 1, l, hf, _ => by
    have : firstL l = none := by
      cases h : firstL l with
      | none => rfl
      | some n => have := (firstL_some h).1; omega
    simp [splitF, this]
  | f + 1, 0, l, _, hg => by
    have : firstL l = none := by
      cases h : firstL l with
      | none => rfl
      | some n => have := (firstL_some h).1; omega
    simp [splitF, this]
  | f + 1, g + 1, l, hf, hg => by
    unfold splitF
    cases h : firstL l with
    | none => rfl
    | some n =>
      have := (firstL_some h).1
      dsimp only
      rw [splitF_fuel f g (l.drop (8 + n)) (by rw [List.length_drop]; omega) (by rw [List.length_drop]; omega)]
/-- what frames at the front have in them, and how many bytes they take -/
def splitL (l : List UInt8) : List (List UInt8) × Nat := splitF l.length l
theorem splitL_none {l : List UInt8} (h : firstL l = none) : splitL l = ([], 0) := by
  unfold splitL
  rw [splitF_fuel l.length (l.length + 1) l (Nat.le_refl _) (by omega)]
  unfold splitF
  rw [h]
theorem splitL_some {l : List UInt8} {n : Nat} (h : firstL l = some n) : splitL l = ((l.drop 8).take n :: (splitL (l.drop (8 + n))).1, 8 + n + (splitL (l.drop (8 + n))).2) := by
  have hs : splitL l = splitF (l.length + 1) l := splitF_fuel l.length (l.length + 1) l (Nat.le_refl _) (by omega)
  rw [hs]
  have h8 : splitF l.length (l.drop (8 + n)) = splitL (l.drop (8 + n)) := splitF_fuel _ _ _ (by rw [List.length_drop]; omega) (Nat.le_refl _)
  show (match firstL l with
    | none => ([], 0)
    | some n => ((l.drop 8).take n :: (splitF l.length (l.drop (8 + n))).1, 8 + n + (splitF l.length (l.drop (8 + n))).2)) = _
  rw [h]
  dsimp only
  rw [h8]
theorem splitF_few : ∀ (f : Nat) (l : List UInt8), (splitF f l).1.length ≤ l.length
  | 0, _ => Nat.zero_le _
  | f + 1, l => by
    unfold splitF
    cases h : firstL l with
    | none => exact Nat.zero_le _
    | some n =>
      have h1 := (firstL_some h).1
      have h2 := splitF_few f (l.drop (8 + n))
      rw [List.length_drop] at h2
      show (splitF f (l.drop (8 + n))).1.length + 1 ≤ _
      omega
theorem splitL_few (l : List UInt8) : (splitL l).1.length ≤ l.length := splitF_few _ _
theorem first_frame (b t : List UInt8) (h : b.length ≤ 32768) : firstL (frameL b ++ t) = some b.length := by
  have hn := num4_frame b t (by omega)
  have hl : (frameL b ++ t).length = 8 + b.length + t.length := by rw [List.length_append, frameL_len]
  have hd : ((frameL b ++ t).drop 8).take b.length = b := by
    rw [List.drop_append_of_le_length (by rw [frameL_len]; omega), frameL_drop, List.take_left' rfl]
  have ht : (frameL b ++ t).take (8 + b.length) = frameL b := List.take_left' (frameL_len b)
  unfold firstL
  rw [hn, hl, hd, ht, if_pos ⟨by omega, h, by omega, rfl⟩]
def framesL (ls : List (List UInt8)) : List UInt8 := (ls.map frameL).flatten
theorem framesL_nil : framesL [] = [] := rfl
theorem framesL_cons (b : List UInt8) (r : List (List UInt8)) : framesL (b :: r) = frameL b ++ framesL r := rfl
theorem framesL_snoc (r : List (List UInt8)) (b : List UInt8) : framesL (r ++ [b]) = framesL r ++ frameL b := by simp [framesL]
theorem framesL_app (r s : List (List UInt8)) : framesL (r ++ s) = framesL r ++ framesL s := by simp [framesL]
theorem split_frames (t : List UInt8) : ∀ (ls : List (List UInt8)), (∀ b ∈ ls, b.length ≤ 32768) → splitL (framesL ls ++ t) = (ls ++ (splitL t).1, (framesL ls).length + (splitL t).2)
  | [], _ => by simp [framesL_nil]
  | b :: r, h => by
    have hb := h b (List.mem_cons_self ..)
    have ih := split_frames t r (fun x hx => h x (List.mem_cons_of_mem _ hx))
    rw [framesL_cons, List.append_assoc, splitL_some (first_frame b _ hb)]
    have hd : (frameL b ++ (framesL r ++ t)).drop (8 + b.length) = framesL r ++ t := List.drop_left' (frameL_len b)
    have hd2 : ((frameL b ++ (framesL r ++ t)).drop 8).take b.length = b := by
      rw [List.drop_append_of_le_length (by rw [frameL_len]; omega), frameL_drop, List.take_left' rfl]
    rw [hd, hd2, ih]
    simp only [List.cons_append, List.length_append, frameL_len, Prod.mk.injEq, true_and]
    omega
theorem split_nil : splitL [] = ([], 0) := rfl
theorem split_whole (ls : List (List UInt8)) (h : ∀ b ∈ ls, b.length ≤ 32768) : splitL (framesL ls) = (ls, (framesL ls).length) := by
  have := split_frames [] ls h
  rw [List.append_nil, split_nil] at this
  rw [this]; simp
/-- a frame that is cut off is none -/
theorem first_cut (b : List UInt8) (k : Nat) (h : b.length ≤ 32768) (hk : k < 8 + b.length) : firstL ((frameL b).take k) = none := by
  cases hf : firstL ((frameL b).take k) with
  | none => rfl
  | some n =>
    have h1 := firstL_some hf
    have hl : ((frameL b).take k).length = k := by rw [List.length_take, frameL_len]; omega
    rw [hl] at h1
    have hn := num4_frame b [] (by omega)
    rw [List.append_nil] at hn
    rw [num4_take _ _ (by omega), hn] at h1
    omega
theorem split_cut (pre : List (List UInt8)) (x : List UInt8) (post : List (List UInt8)) (k : Nat) (h : ∀ b ∈ pre ++ x :: post, b.length ≤ 32768) (h1 : (framesL pre).length ≤ k) (h2 : k < (framesL (pre ++ [x])).length) :
    splitL ((framesL (pre ++ x :: post)).take k) = (pre, (framesL pre).length) := by
  have hx := h x (by simp)
  have hp : ∀ b ∈ pre, b.length ≤ 32768 := fun b hb => h b (by simp [hb])
  rw [framesL_snoc, List.length_append, frameL_len] at h2
  have e : (framesL (pre ++ x :: post)).take k = framesL pre ++ (frameL x).take (k - (framesL pre).length) := by
    rw [framesL_app, framesL_cons, List.take_append, List.take_of_length_le h1, List.take_append, show k - (framesL pre).length - (frameL x).length = 0 by rw [frameL_len]; omega]
    simp
  rw [e, split_frames _ pre hp, splitL_none (first_cut x _ hx (by omega))]
  simp
/-- a frame of which a byte is another one is not there -/
theorem turned_not (a x y : List UInt8) (hl : x.length = 8 + a.length) (hne : x ≠ frameL a) : (splitL (x ++ y)).1.head? ≠ some a := by
  cases hf : firstL (x ++ y) with
  | none => rw [splitL_none hf]; simp
  | some n =>
    rw [splitL_some hf]
    simp only [List.head?_cons, ne_eq, Option.some.injEq]
    intro he
    have h1 := firstL_some hf
    have hn : n = a.length := by
      rw [← he, List.length_take, List.length_drop]
      omega
    rw [he, hn] at h1
    have h4 := h1.2.2.2
    rw [List.take_left' hl] at h4
    exact hne h4.symm
end Go.Proofs.YtkbjpgfdmkmbmaaDoor
namespace Go.Proofs.YtkbjpgfdmkmbmaaDoor
open Go.RowKit
set_option linter.unusedVariables false
set_option linter.unusedSimpArgs false

/-- a slice of bytes reads as these -/
def RdAt (w : World) (v : Value) (l : List UInt8) : Prop :=
  ∃ A c, v = .slice A l.length c ∧ l.length ≤ c ∧ c ≤ 9223372036854775807 ∧ ((A = none ∧ l.length = 0 ∧ c = 0) ∨ ∃ g o, A = some ⟨g, o, none⟩ ∧ g < w.heap.size ∧ ∀ j u, (cells l)[j]? = some u → w.cell? ((⟨g, o, none⟩ : Addr).add j) = some u)
/-- only blocks of S, and new ones, are other ones -/
structure Only (S : Nat → Prop) (w w' : World) : Prop where
  os : w'.os = w.os
  tape : w'.tape = w.tape
  output : w'.output = w.output
  size : w.heap.size ≤ w'.heap.size
  block : ∀ k, k < w.heap.size → ¬ S k → w'.heap[k]? = w.heap[k]?
theorem Only.refl (S : Nat → Prop) (w : World) : Only S w w := ⟨rfl, rfl, rfl, Nat.le_refl _, fun _ _ _ => rfl⟩
theorem Only.trans {S : Nat → Prop} {a b c : World} (h : Only S a b) (k : Only S b c) : Only S a c :=
  ⟨k.os.trans h.os, k.tape.trans h.tape, k.output.trans h.output, Nat.le_trans h.size k.size, fun i hi hn => (k.block i (by have := h.size; omega) hn).trans (h.block i hi hn)⟩
/-- what the second may write, but for what was new, the first one may -/
theorem Only.then {S S' : Nat → Prop} {a b c : World} (h : Only S a b) (k : Only S' b c) (hs : ∀ i, S' i → i < a.heap.size → S i) : Only S a c :=
  ⟨k.os.trans h.os, k.tape.trans h.tape, k.output.trans h.output, Nat.le_trans h.size k.size, fun i hi hn => (k.block i (by have := h.size; omega) (fun e => hn (hs i e hi))).trans (h.block i hi hn)⟩
theorem Only.mono {S S' : Nat → Prop} {w w' : World} (h : Only S w w') (hs : ∀ i, i < w.heap.size → S i → S' i) : Only S' w w' := ⟨h.os, h.tape, h.output, h.size, fun i hi hn => h.block i hi (fun e => hn (hs i hi e))⟩
theorem Only.below {S : Nat → Prop} {w w' : World} {B : Nat} (h : Only S w w') (hB : B ≤ w.heap.size) (hs : ∀ i, S i → B ≤ i) : Below B w w' := ⟨h.os, h.tape, h.output, h.size, fun i hi => h.block i (by omega) (fun e => by have := hs i e; omega)⟩
theorem Only.of_below {S : Nat → Prop} {w w' : World} (h : Below w.heap.size w w') : Only S w w' := ⟨h.os, h.tape, h.output, h.size, fun i hi _ => h.block i hi⟩
theorem Only.of_grown {S : Nat → Prop} {w w' : World} {row : Option Nat} (h : w.grownBy w' row) (hs : ∀ i, row = some i → S i) : Only S w w' := ⟨h.os, h.tape, h.output, h.size, fun i hi hn => h.block i hi (fun e => hn (hs i e.symm))⟩
theorem Only.set {S : Nat → Prop} {w w' : World} {b o : Nat} (h : Only S w w') (hb : S b) (v : Value) : Only S w (w'.setCell ⟨b, o, none⟩ v) :=
  ⟨h.os, h.tape, h.output, by rw [set_size]; exact h.size, fun i hi hn => (set_there v (fun e => hn (by rw [e]; exact hb))).trans (h.block i hi hn)⟩
theorem Only.alloc {S : Nat → Prop} {w w' : World} (h : Only S w w') (x : Obj) : Only S w (w'.alloc x) :=
  ⟨h.os, h.tape, h.output, by simp; have := h.size; omega, fun i hi hn => (Below.heap_alloc _ _ _ (by have := h.size; omega)).trans (h.block i hi hn)⟩
theorem Only.drewN {S : Nat → Prop} {w w' : World} (h : Only S w w') (n : Nat) : Only S w (w'.drewN n) := ⟨h.os, h.tape, h.output, h.size, h.block⟩
theorem Only.drew {S : Nat → Prop} {w w' : World} (h : Only S w w') : Only S w w'.drew := ⟨h.os, h.tape, h.output, h.size, h.block⟩

theorem RdAt.keep {w w' : World} {v : Value} {l : List UInt8} (h : RdAt w v l) (hs : w.heap.size ≤ w'.heap.size) (hb : ∀ g, v.ownBlock = some g → w'.heap[g]? = w.heap[g]?) : RdAt w' v l := by
  obtain ⟨A, c, rfl, h1, h2, h3⟩ := h
  refine ⟨A, c, rfl, h1, h2, ?_⟩
  rcases h3 with h3 | ⟨g, o, rfl, hg, h3⟩
  · exact .inl h3
  · refine .inr ⟨g, o, rfl, by omega, fun j u hu => ?_⟩
    rw [← h3 j u hu]
    exact World.cell?_of_block (by rw [Addr.add_lit]; exact hb g rfl)
theorem RdAt.lt {w : World} {v : Value} {l : List UInt8} (h : RdAt w v l) {g : Nat} (hg : v.ownBlock = some g) : g < w.heap.size := by
  obtain ⟨A, c, rfl, h1, h2, h3⟩ := h
  rcases h3 with ⟨rfl, _⟩ | ⟨g', o, rfl, hg', _⟩
  · cases hg
  · injection hg with hg; rw [← hg]; exact hg'
theorem RdAt.only {S : Nat → Prop} {w w' : World} {v : Value} {l : List UInt8} (h : RdAt w v l) (ho : Only S w w') (hb : ∀ g, v.ownBlock = some g → ¬ S g) : RdAt w' v l :=
  h.keep ho.size fun g hg => ho.block g (h.lt hg) (hb g hg)
theorem RdAt.below {w w' : World} {v : Value} {l : List UInt8} (h : RdAt w v l) (hb : Below w.heap.size w w') : RdAt w' v l := h.keep hb.size fun g hg => hb.block g (h.lt hg)
theorem RdAt.nil (w : World) : RdAt w (.slice none 0 0) [] := ⟨none, 0, rfl, Nat.le_refl _, Nat.zero_le _, .inl ⟨rfl, rfl, rfl⟩⟩
/-- the first n of them -/
theorem cells_take (l : List UInt8) (n j : Nat) (u : Value) (h : (cells (l.take n))[j]? = some u) : (cells l)[j]? = some u := by
  unfold cells at h ⊢
  rw [List.getElem?_map] at h ⊢
  rw [List.getElem?_take] at h
  split at h
  · exact h
  · cases h
theorem RdAt.take {w : World} {A : Option Addr} {c : Nat} {l : List UInt8} (h : RdAt w (.slice A l.length c) l) (n : Nat) (hn : n ≤ l.length) : RdAt w (.slice A n c) (l.take n) := by
  obtain ⟨A', c', e, h1, h2, h3⟩ := h
  cases e
  have hl : (l.take n).length = n := by rw [List.length_take]; omega
  refine ⟨A, c, by rw [hl], by omega, h2, ?_⟩
  rcases h3 with ⟨rfl, h4, h5⟩ | ⟨g, o, rfl, hg, h3⟩
  · exact .inl ⟨rfl, by omega, h5⟩
  · exact .inr ⟨g, o, rfl, hg, fun j u hu => h3 j u (cells_take l n j u hu)⟩
/-- a row of the call's own reads as its bytes -/
theorem Buf.rd {w : World} {B : Nat} {v : Value} {l : List UInt8} (h : Buf w B v l) : RdAt w v l := by
  have hc := fun g => World.ownsRow.cells (g := g) h
  rcases h.2 with ⟨rfl, h0⟩ | ⟨g, cap, cur, rfl, hB, hg, h4, h5, _⟩
  · obtain rfl := List.length_eq_zero_iff.1 h0
    exact RdAt.nil w
  · refine ⟨_, cap, rfl, ?_, ?_, .inr ⟨g, 0, rfl, (Array.getElem?_eq_some_iff.1 hg).1, hc g rfl⟩⟩
    · omega
    · unfold maxLen at *; omega
/-- an empty literal -/
theorem own_empty (w : World) : (w.alloc (.cells #[] 5)).ownsRow w.heap.size 5 1 (.slice (some ⟨w.heap.size, 0, none⟩) 0 0) 0 [] := ⟨by simp, Or.inr ⟨w.heap.size, 0, #[], rfl, Nat.le_refl _, heap_alloc_last w _, Nat.le_refl _, by unfold maxLen; decide, by simp, by simp⟩⟩
/-- what an append takes of it -/
theorem RdAt.news {w : World} {v : Value} {l : List UInt8} (h : RdAt w v l) : ∃ A c, v = .slice A l.length c ∧ ((A = none ∧ l.length = 0 ∧ c = 0) ∨ ∃ ad, A = some ad ∧ ∀ j u, (cells l)[j]? = some u → w.cell? (ad.add j) = some u) := by
  obtain ⟨A, c, rfl, h1, h2, h3⟩ := h
  refine ⟨A, c, rfl, ?_⟩
  rcases h3 with h3 | ⟨g, o, rfl, hg, h3⟩
  · exact .inl h3
  · exact .inr ⟨_, rfl, h3⟩
/-- 'string(b)' -/
theorem RdAt.text {w : World} {v : Value} {l : List UInt8} (h : RdAt w v l) : (convert 38 9 v).run Tryd.prog w = .ok (.string ⟨l.toArray⟩) w := by
  obtain ⟨A, c, rfl, h1, h2, h3⟩ := h
  rcases h3 with ⟨rfl, h0, rfl⟩ | ⟨g, o, rfl, hg, h3⟩
  · obtain rfl : l = [] := List.length_eq_zero_iff.1 h0
    show (convert 38 9 (.slice none 0 0)).run Tryd.prog w = _
    rw [run_convert_bytes_string (P := Tryd.prog) w 38 9 5 none 0 0 Tryd.underlying38 Tryd.underlying5 Tryd.underlying9]
    rfl
  · exact run_convert_bytes_back (P := Tryd.prog) w 38 9 5 ⟨g, o, none⟩ c l Tryd.underlying38 Tryd.underlying5 Tryd.underlying9 (fun j hj => h3 j _ (by simp [cells, hj]))

/-! ### bytes within an argument: where there is no room at all, nothing is known of the block -/
def rdBlock : Value → Option Nat
  | .slice (some a) _ c => if c = 0 then none else some a.block
  | _ => none
def RdW (w : World) (v : Value) (l : List UInt8) : Prop :=
  ∃ A c, v = .slice A l.length c ∧ l.length ≤ c ∧ c ≤ 9223372036854775807 ∧ ((l.length = 0 ∧ c = 0) ∨ ∃ g o, A = some ⟨g, o, none⟩ ∧ g < w.heap.size ∧ ∀ j u, (cells l)[j]? = some u → w.cell? ((⟨g, o, none⟩ : Addr).add j) = some u)
theorem RdAt.weak {w : World} {v : Value} {l : List UInt8} (h : RdAt w v l) : RdW w v l := by
  obtain ⟨A, c, rfl, h1, h2, h3⟩ := h
  exact ⟨A, c, rfl, h1, h2, h3.imp (fun h => h.2) id⟩
theorem rdBlock_own {v : Value} {g : Nat} (h : rdBlock v = some g) : v.ownBlock = some g := by
  unfold rdBlock at h
  split at h
  · split at h
    · cases h
    · exact h
  · cases h
theorem RdW.lt {w : World} {v : Value} {l : List UInt8} (h : RdW w v l) {g : Nat} (hg : rdBlock v = some g) : g < w.heap.size := by
  obtain ⟨A, c, rfl, h1, h2, h3⟩ := h
  rcases h3 with ⟨_, rfl⟩ | ⟨g', o, rfl, hg', _⟩
  · cases A <;> simp [rdBlock] at hg
  · have hg := rdBlock_own hg
    injection hg with hg
    rw [← hg]
    exact hg'
theorem RdW.keep {w w' : World} {v : Value} {l : List UInt8} (h : RdW w v l) (hs : w.heap.size ≤ w'.heap.size) (hb : ∀ g, rdBlock v = some g → w'.heap[g]? = w.heap[g]?) : RdW w' v l := by
  obtain ⟨A, c, rfl, h1, h2, h3⟩ := h
  refine ⟨A, c, rfl, h1, h2, ?_⟩
  by_cases hc : c = 0
  · exact .inl ⟨by omega, hc⟩
  rcases h3 with h3 | ⟨g, o, rfl, hg, h3⟩
  · exact .inl h3
  · refine .inr ⟨g, o, rfl, by omega, fun j u hu => ?_⟩
    rw [← h3 j u hu]
    exact World.cell?_of_block (by rw [Addr.add_lit]; exact hb g (by simp [rdBlock, hc]))
theorem RdW.below {w w' : World} {v : Value} {l : List UInt8} (h : RdW w v l) (hb : Below w.heap.size w w') : RdW w' v l := h.keep hb.size fun g hg => hb.block g (h.lt hg)
theorem RdW.only {S : Nat → Prop} {w w' : World} {v : Value} {l : List UInt8} (h : RdW w v l) (ho : Only S w w') (hb : ∀ g, rdBlock v = some g → ¬ S g) : RdW w' v l :=
  h.keep ho.size fun g hg => ho.block g (h.lt hg) (hb g hg)
theorem RdW.take {w : World} {A : Option Addr} {c : Nat} {l : List UInt8} (h : RdW w (.slice A l.length c) l) (n : Nat) (hn : n ≤ l.length) : RdW w (.slice A n c) (l.take n) := by
  obtain ⟨A', c', e, h1, h2, h3⟩ := h
  cases e
  have hl : (l.take n).length = n := by rw [List.length_take]; omega
  refine ⟨A, c, by rw [hl], by omega, h2, ?_⟩
  rcases h3 with ⟨h4, h5⟩ | ⟨g, o, rfl, hg, h3⟩
  · exact .inl ⟨by omega, h5⟩
  · exact .inr ⟨g, o, rfl, hg, fun j u hu => h3 j u (cells_take l n j u hu)⟩
theorem RdW.news {w : World} {v : Value} {l : List UInt8} (h : RdW w v l) : ∃ A c, v = .slice A l.length c ∧ ((A = none ∧ l.length = 0 ∧ c = 0) ∨ ∃ ad, A = some ad ∧ ∀ j u, (cells l)[j]? = some u → w.cell? (ad.add j) = some u) := by
  obtain ⟨A, c, rfl, h1, h2, h3⟩ := h
  refine ⟨A, c, rfl, ?_⟩
  rcases h3 with h3 | ⟨g, o, rfl, hg, h3⟩
  · cases A with
    | none => exact .inl ⟨rfl, h3.1, h3.2⟩
    | some ad => exact .inr ⟨ad, rfl, fun j u hu => by
        obtain rfl : l = [] := List.length_eq_zero_iff.1 h3.1
        simp [cells] at hu⟩
  · exact .inr ⟨_, rfl, h3⟩
end Go.Proofs.YtkbjpgfdmkmbmaaDoor
namespace Go.Proofs.YtkbjpgfdmkmbmaaDoor
open Go.RowKit

/-- a callee that leaves the world alone, in a second quiet region -/
theorem quiet_more {P : Program} {f : FuncId} {args : Array Value} {w : World} {a n : Nat} {v : Value} (h : Calls P f args (w.drewN (a + n)) fun e w' => e = .returned v ∧ w' = w.drewN (a + n)) :
    Calls P f args (w.drewN (a + n)) fun e w'' => e = .returned v ∧ ∃ m, w'' = w.drewN (a + m) := h.mono fun _ _ ⟨he, hm⟩ => ⟨he, n, hm⟩
end Go.Proofs.YtkbjpgfdmkmbmaaDoor
namespace Go.Proofs.YtkbjpgfdmkmbmaaDoor
open Go.RowKit

theorem run_alloc_new {P : Program} (w : World) (t : TypeId) (z : Value) (hz : ∀ w, (zeroValue t).run P w = .ok z w) :
    (Instr.alloc t true (.tuple #[])).run P w = .ok (.pointer (some ⟨w.heap.size, 0, none⟩)) (w.alloc (.cells z.cells t)) := by
  simp [Instr.alloc, Sem.run_bind, hz, newVar, newRow]
theorem wp_alloc_var {P : Program} {o : Oper} {a : Act} {w : World} {K : Act → World → Prop} {Q : Exit → Act → World → Prop} (t : TypeId) (z : Value) (ho : o.op = .alloc t)
    (hz : ∀ w, (zeroValue t).run P w = .ok z w) (h : K (a.put o.dst (.pointer (some ⟨w.heap.size, 0, none⟩))) (w.alloc (.cells z.cells t))) : o.wp P a w K Q := by
  unfold Oper.wp execOp
  simp only [ho, Sem.run_bind, run_alloc_new w t z hz, Result.andThen_ok]
  exact h
theorem wp_store_new {P : Program} {o : Oper} {a : Act} {w : World} {K : Act → World → Prop} {Q : Exit → Act → World → Prop} (t : TypeId) (p x : Operand) (c c' : Array Value) (ho : o.op = .store t p x)
    (hp : a.eval p = .pointer (some ⟨w.heap.size, 0, none⟩)) (hx : a.eval x = .agg c') (hi : (P.info? t).map (·.size) = some c'.size) (hs : c.size = c'.size) (h1 : c'.all (·.oneCell') = true)
    (h : K (a.put o.dst undef) (w.alloc (.cells c' t))) : o.wp P a (w.alloc (.cells c t)) K Q := by
  unfold Oper.wp execOp
  simp only [ho, hp, hx, Sem.run_bind, run_storeAt_new w t c c' hi hs h1, Result.andThen_ok]
  exact h
theorem wp_build_is {P : Program} {o : Oper} {a : Act} {w : World} {K : Act → World → Prop} {Q : Exit → Act → World → Prop} (t : TypeId) (parts : Array (Nat × Operand)) (cells : Array Value) (ho : o.op = .build t parts)
    (hc : P.built t (parts.map fun (i, x) => (i, a.eval x)).toList = some cells) (h : K (a.put o.dst (.agg cells)) w) : o.wp P a w K Q :=
  wp_build t parts ho (by rw [hc]; rfl) (by rw [hc]; exact h)
theorem wpList_alloc_var {P : Program} (t : TypeId) (z : Value) {ops : Array Oper} {rest : List Oper} {d : Option Tmp} {ty : TypeId} {pos : String} {after : Array Edge} {a : Act} {w : World} {Q : Exit → Act → World → Prop}
    (hz : ∀ w, (zeroValue t).run P w = .ok z w) (h : wpList P ops Q rest (a.put d (.pointer (some ⟨w.heap.size, 0, none⟩))) (w.alloc (.cells z.cells t))) :
    wpList P ops Q ({ dst := d, op := .alloc t, type := ty, pos := pos, after := after, guard := none } :: rest) a w :=
  wpList_plain rfl fun _ hK => wp_alloc_var t z rfl hz (hK _ _ h)
theorem wpList_store_new {P : Program} {ops : Array Oper} {rest : List Oper} {o : Oper} {a : Act} {w : World} {Q : Exit → Act → World → Prop} (hgd : o.guard = none) (t : TypeId) (p x : Operand) (c c' : Array Value) (ho : o.op = .store t p x)
    (hp : a.eval p = .pointer (some ⟨w.heap.size, 0, none⟩)) (hx : a.eval x = .agg c') (hi : (P.info? t).map (·.size) = some c'.size) (hs : c.size = c'.size) (h1 : c'.all (·.oneCell') = true)
    (h : wpList P ops Q rest (a.put o.dst undef) (w.alloc (.cells c' t))) : wpList P ops Q (o :: rest) a (w.alloc (.cells c t)) :=
  wpList_plain hgd fun _ hK => wp_store_new t p x c c' ho hp hx hi hs h1 (hK _ _ h)
theorem arr_store (w : World) (C : Array Value) (t : TypeId) (q k : Nat) (v : Value) : (((w.alloc (.cells C t)).drewN q).setCell ⟨w.heap.size, k, none⟩ v) = (w.alloc (.cells (C.setIfInBounds k v) t)).drewN q := by
  rw [setCell_eq_setRow (((w.alloc (.cells C t)).drewN q)) w.heap.size k C t (0, 0) v (heap_alloc_last w _)]
  have := World.setRow_alloc_new w C (C.setIfInBounds k v) t
  rw [← this]; rfl
/-- a result that lies in memory -/
theorem results_cell {P : Program} {fn : Func} {t : Tmp} {ty : TypeId} (h : fn.results = #[.cell t ty]) (tmps : Array Value) (w : World) (b : Nat) (cs : List Value) (d : TypeDesc) (hp : tmps.getD t undef = .pointer (some ⟨b, 0, none⟩)) (hc : w.rangeAt b 0 cs)
    (hu : P.underlying ty = some d) (hd : d.isRow = true) (hi : (P.info? ty).map (·.size) = some cs.length) : (results fn tmps).run P w = .ok (.agg cs.toArray) w := by
  have hl := run_loadVar_mid (P := P) w b 0 ty cs d hc hu hd hi
  simp only [Array.getD_eq_getD_getElem?] at hp
  simp [results, h, hp, hl, asAddr]
theorem range_new (w : World) (cs : List Value) (t : TypeId) : (w.alloc (.cells cs.toArray t)).rangeAt w.heap.size 0 cs := fun j v hv => by
  show (match (w.alloc _).heap[w.heap.size]? with | some (.cells c _ _) => c[0 + j]? | _ => none) = _
  rw [heap_alloc_last]; simpa using hv
end Go.Proofs.YtkbjpgfdmkmbmaaDoor
namespace Go.Proofs.YtkbjpgfdmkmbmaaDoor
open Go.RowKit

/-- the slice v holds these bytes, at the head of a row of its own from block B on; its room can be written -/
structure MBuf (w : World) (B : Nat) (v : Value) (l : List UInt8) (g cap : Nat) : Prop where
  val : v = .slice (some ⟨g, 0, none⟩) l.length cap
  base : B ≤ g
  lt : g < w.heap.size
  le : l.length ≤ cap
  max : cap ≤ maxLen
  cell : ∀ j (hj : j < l.length), w.cell? ⟨g, j, none⟩ = some (.int .u8 (l[j].toNat : Int))
  room : ∀ j, l.length ≤ j → j < cap → (w.cell? ⟨g, j, none⟩).isSome = true ∧ w.frozen? ⟨g, j, none⟩ = false
theorem MBuf.keep {w w' : World} {B : Nat} {v : Value} {l : List UInt8} {g cap : Nat} (h : MBuf w B v l g cap) (hb : w'.heap[g]? = w.heap[g]?) (hs : w.heap.size ≤ w'.heap.size) : MBuf w' B v l g cap :=
  ⟨h.val, h.base, Nat.lt_of_lt_of_le h.lt hs, h.le, h.max, fun j hj => (World.cell?_of_block (a := ⟨g, j, none⟩) hb).trans (h.cell j hj),
    fun j h1 h2 => ⟨by rw [World.cell?_of_block (a := ⟨g, j, none⟩) hb]; exact (h.room j h1 h2).1, by rw [World.frozen?_of_block (a := ⟨g, j, none⟩) hb]; exact (h.room j h1 h2).2⟩⟩
theorem MBuf.below {w w' : World} {B : Nat} {v : Value} {l : List UInt8} {g cap : Nat} (h : MBuf w B v l g cap) (hb : Below w.heap.size w w') : MBuf w' B v l g cap := h.keep (hb.block g h.lt) hb.size
theorem MBuf.drew {w : World} {B : Nat} {v : Value} {l : List UInt8} {g cap : Nat} (h : MBuf w B v l g cap) : MBuf w.drew B v l g cap := h.keep rfl (Nat.le_refl _)
theorem MBuf.alloc {w : World} {B : Nat} {v : Value} {l : List UInt8} {g cap : Nat} (h : MBuf w B v l g cap) (o : Obj) : MBuf (w.alloc o) B v l g cap := h.below ((Below.refl _ _).alloc (Nat.le_refl _) o)

theorem bytesRow_size (s : ByteArray) (cap : Nat) (h : s.size ≤ cap) : (bytesRow s cap).size = cap := by
  have : s.data.size = s.size := rfl
  simp [bytesRow]; omega
theorem bytesRow_at (s : ByteArray) (cap j : Nat) (hj : j < cap) : ∃ c : UInt8, (bytesRow s cap)[j]? = some (.int .u8 (c.toNat : Int)) ∧ (∀ h' : j < s.data.toList.length, c = s.data.toList[j]) := by
  have hsz : s.data.size = s.size := rfl
  by_cases hjs : j < s.data.size
  · refine ⟨s.data[j], ?_, fun h' => by simp⟩
    unfold bytesRow
    rw [Array.getElem?_append_left (by simpa using hjs)]
    simp only [Array.getElem?_map, Array.getElem?_eq_getElem hjs, Option.map_some]
  · refine ⟨0, ?_, fun h' => absurd (by simpa using h') hjs⟩
    unfold bytesRow
    rw [Array.getElem?_append_right (by simpa using hjs), Array.getElem?_replicate, if_pos]
    · rfl
    · rw [Array.size_map]; omega
/-- []byte(s) -/
theorem conv_mbuf (X : World) (B : Nat) (hB : B ≤ X.heap.size) (s : ByteArray) (hs : s.size ≤ maxLen) : ∃ W v g cap, (convert 9 38 (.string s)).run Tryd.prog X = .ok v W ∧
    MBuf W B v s.data.toList g cap ∧ Below X.heap.size X W ∧ X.heap.size ≤ g := by
  have hr := run_bytes_of_string (P := Tryd.prog) X 9 38 5 s Tryd.underlying9 Tryd.underlying38 Tryd.underlying5
  have hge := grownCap_ge X s.size 0 5
  have hle := grownCap_le_maxLen X s.size 0 5 hs
  generalize grownCap X s.size 0 5 = cap at *
  have hbs := bytesRow_size s cap hge
  have hlast := heap_alloc_last X.drew (.cells (bytesRow s cap) 5 ((bytesRow s cap).size, (bytesRow s cap).size + 1))
  have hcell : ∀ j, (X.drew.alloc (.cells (bytesRow s cap) 5 ((bytesRow s cap).size, (bytesRow s cap).size + 1))).cell? ⟨X.heap.size, j, none⟩ = (bytesRow s cap)[j]? := fun j => by
    show (match (X.drew.alloc _).heap[X.drew.heap.size]? with | some (.cells cs _ _) => cs[j]? | _ => none) = _
    rw [hlast]
  have hb : Below X.heap.size X (X.drew.alloc (.cells (bytesRow s cap) 5 ((bytesRow s cap).size, (bytesRow s cap).size + 1))) := (Below.refl _ _).drew.alloc (Nat.le_refl _) _
  refine ⟨_, _, X.heap.size, cap, hr, ⟨rfl, hB, by simp, hge, hle, fun j hj => ?_, fun j h1 h2 => ?_⟩, hb, Nat.le_refl _⟩
  · obtain ⟨c, hc, he⟩ := bytesRow_at s cap j (Nat.lt_of_lt_of_le hj hge)
    rw [hcell, hc, he hj]
  · obtain ⟨c, hc, _⟩ := bytesRow_at s cap j h2
    refine ⟨by rw [hcell, hc]; rfl, ?_⟩
    show (match (X.drew.alloc _).heap[X.drew.heap.size]? with | some (.cells _ _ (lo, hi)) => decide (lo ≤ j) && decide (j < hi) | _ => false) = false
    rw [hlast]
    show (decide ((bytesRow s cap).size ≤ j) && decide (j < (bytesRow s cap).size + 1)) = false
    rw [hbs]
    simp; omega
/-- one byte more -/
theorem mbuf_append {w : World} {B : Nat} {v : Value} {l : List UInt8} {g cap : Nat} (h : MBuf w B v l g cap) (hBw : B ≤ w.heap.size) (hlen : l.length + 1 ≤ 140737488355328) (ty : TypeId) (ad : Addr) (c : Nat) (x : UInt8) (hx : w.cell? (ad.add 0) = some (.int .u8 (x.toNat : Int))) :
    ∃ v' w' g' cap', (Builtin.append_ #[38, 38] ty #[v, .slice (some ad) 1 c]).run Tryd.prog w = .ok v' w' ∧ MBuf w' B v' (l ++ [x]) g' cap' ∧ w.grownBy w' (some g) := by
  obtain ⟨i0, hi, hz0, hz1, hz2⟩ := info_parts Tryd.infoByte
  have hnews : ∀ j u, [Value.int .u8 (x.toNat : Int)][j]? = some u → w.cell? (ad.add j) = some u := fun j u hj => by
    cases j with
    | zero => simp at hj; rw [hx, hj]
    | succ j => simp at hj
  obtain ⟨rfl, hb, hlt, hle, hmax, hcell, hroom⟩ := h
  by_cases hr : l.length + 1 ≤ cap
  · have hrun := run_append_room_cells (P := Tryd.prog) (w := w) 38 ty 5 i0 Tryd.underlying38 hi g 0 l.length cap ad 1 c [.int .u8 (x.toNat : Int)] (by rw [hz1]; rfl) hnews (one_cell _) hr
      (fun j hj => by
        have : j = 0 := by simpa using hj
        subst this
        rw [hz1, show 0 + l.length * 1 + 0 = l.length by omega]
        exact (hroom l.length (Nat.le_refl _) (by omega)).1)
      (fun j hj => by
        have : j = 0 := by simpa using hj
        subst this
        rw [hz1, show 0 + l.length * 1 + 0 = l.length by omega]
        exact (hroom l.length (Nat.le_refl _) (by omega)).2)
    rw [hz1, show 0 + l.length * 1 = l.length by omega] at hrun
    have hw : w.setCells g l.length [.int .u8 (x.toNat : Int)] = w.setCell ⟨g, l.length, none⟩ (.int .u8 (x.toNat : Int)) := rfl
    rw [hw] at hrun
    have hsz : (w.setCell ⟨g, l.length, none⟩ (.int .u8 (x.toNat : Int))).heap.size = w.heap.size := by simp [World.setCell]
    obtain ⟨u, hu⟩ := Option.isSome_iff_exists.1 (hroom l.length (Nat.le_refl _) (by omega)).1
    refine ⟨_, _, g, cap, hrun, ⟨by simp, hb, by rw [hsz]; exact hlt, by simpa using hr, hmax, fun j hj => ?_, fun j h1 h2 => ?_⟩, ⟨rfl, rfl, rfl, Nat.le_of_eq hsz.symm, fun k hk hne => ?_⟩⟩
    · by_cases hjl : j < l.length
      · rw [World.cell?_setCell_other _ _ _ _ (fun e => by injection e; omega), hcell j hjl]
        simp [List.getElem_append_left hjl]
      · have hje : j = l.length := by simp at hj; omega
        subst hje
        rw [World.cell?_setCell_same _ _ _ hu]
        simp
    · have hj1 : l.length + 1 ≤ j := by simpa using h1
      rw [World.cell?_setCell_other _ _ _ _ (fun e => by injection e; omega), World.frozen?_setCell]
      exact hroom j (by omega) h2
    · exact Below.heap_setCell w _ _ k (fun e => hne (by rw [e]))
  · have hce : cap = l.length := by omega
    subst hce
    have holds : ∀ j u, (cells l)[j]? = some u → w.cell? ((⟨g, 0, none⟩ : Addr).add j) = some u := fun j u hj => by
      have hjl : j < l.length := by
        have := (List.getElem?_eq_some_iff.1 hj).1
        simpa [cells] using this
      have e : (⟨g, 0, none⟩ : Addr).add j = ⟨g, j, none⟩ := by unfold Addr.add; split <;> simp_all
      rw [e, hcell j hjl]
      unfold cells at hj
      rw [List.getElem?_map, List.getElem?_eq_getElem hjl] at hj
      exact hj
    have hns := Go.Room.nextslicecap_le' (need := l.length + 1) (old := l.length) (Nat.lt_succ_self _)
    have hrun := run_append_grow (P := Tryd.prog) (w := w) 38 ty 5 i0 _ Tryd.underlying38 hi hz0 ⟨g, 0, none⟩ l.length l.length (cells l) (by rw [hz1]; simp [cells]) holds ad 1 c [.int .u8 (x.toNat : Int)] (by rw [hz1]; rfl) hnews (Nat.lt_succ_self _) (by omega) (by rw [hz2]; omega)
    have hge := grownCap_ge w (l.length + 1) l.length 5
    have hgm := grownCap_le_maxLen w (l.length + 1) l.length 5 (by unfold maxLen; omega)
    generalize grownCap w (l.length + 1) l.length 5 = cap' at *
    have hrow : (cells l).toArray ++ #[Value.int .u8 (x.toNat : Int)] = (cells (l ++ [x])).toArray := by
      apply Array.ext'; simp [cells]
    have hrow2 : [Value.int .u8 (x.toNat : Int)].toArray = #[Value.int .u8 (x.toNat : Int)] := rfl
    rw [hrow2, hrow] at hrun
    generalize hC : (cells (l ++ [x])).toArray ++ Builtin.zeroCells (Value.int .u8 0).cells (cap' - (l.length + 1)) = C at hrun
    have hCs : C.size = cap' := by
      rw [← hC]; simp [cells, size_zeroCells, Value.cells]; omega
    have hCa : ∀ j (hj : j < (l ++ [x]).length), C[j]? = some (.int .u8 ((l ++ [x])[j].toNat : Int)) := fun j hj => by
      rw [← hC, Array.getElem?_append_left (by simpa [cells] using hj)]
      unfold cells
      rw [List.getElem?_toArray, List.getElem?_map, List.getElem?_eq_getElem hj]; rfl
    have hlast := heap_alloc_last w.drew (.cells C 5)
    have hcl : ∀ j, (w.drew.alloc (.cells C 5)).cell? ⟨w.heap.size, j, none⟩ = C[j]? := fun j => by
      show (match (w.drew.alloc _).heap[w.drew.heap.size]? with | some (.cells cs _ _) => cs[j]? | _ => none) = _
      rw [hlast]
    refine ⟨_, _, w.heap.size, cap', hrun, ⟨by simp, hBw, by simp, by simpa using hge, hgm, fun j hj => by rw [hcl, hCa j hj], fun j h1 h2 => ⟨?_, ?_⟩⟩, ?_⟩
    · rw [hcl, Array.getElem?_eq_getElem (by rw [hCs]; exact h2)]; rfl
    · show (match (w.drew.alloc _).heap[w.drew.heap.size]? with | some (.cells _ _ (lo, hi)) => decide (lo ≤ j) && decide (j < hi) | _ => false) = false
      rw [hlast]
      simp
    · have hb' : Below w.heap.size w (w.drew.alloc (.cells C 5)) := (Below.refl _ _).drew.alloc (Nat.le_refl _) _
      exact ⟨hb'.os, hb'.tape, hb'.output, hb'.size, fun k hk _ => hb'.block k hk⟩
theorem wpList_append_mbuf (w : World) {ops : Array Oper} {rest : List Oper} {o : Oper} {a : Act} {Q : Exit → Act → World → Prop} (hgd : o.guard = none) (s x : Operand)
    (ho : o.op = .call { callee := .builtin .append, args := #[s, x], argTypes := #[38, 38] })
    {B : Nat} {v : Value} {l : List UInt8} {g cap : Nat} (hs : a.eval s = v) (h : MBuf w B v l g cap) (hBw : B ≤ w.heap.size) (hlen : l.length + 1 ≤ 140737488355328)
    (ad : Addr) (c : Nat) (b : UInt8) (hx : a.eval x = .slice (some ad) 1 c) (hb : w.cell? (ad.add 0) = some (.int .u8 (b.toNat : Int)))
    (hn : ∀ v' w' g' cap', MBuf w' B v' (l ++ [b]) g' cap' → w.grownBy w' (some g) → wpList Tryd.prog ops Q rest (a.put o.dst v') w') : wpList Tryd.prog ops Q (o :: rest) a w :=
  wpList_plain hgd fun _ hK => by
    obtain ⟨v', w', g', cap', hrun, h2, h3⟩ := mbuf_append h hBw hlen o.type ad c b hb
    unfold Oper.wp execOp
    simp only [ho, resolve, invoke, builtin, Sem.run_bind, Sem.run_pure, Result.andThen_ok, List.map_toArray, List.map_cons, List.map_nil, hs, hx, hrun]
    exact hK _ _ (hn v' w' g' cap' h2 h3)
end Go.Proofs.YtkbjpgfdmkmbmaaDoor
namespace Go.Proofs.YtkbjpgfdmkmbmaaDoor

def regionOf (n : Nat) : Code → Option Code
  | .region i ops d => if i = n then some (.region i ops d) else none
  | .loop c => regionOf n c
  | .seq a b => match regionOf n a with
    | some c => some c
    | none => regionOf n b
  | .block _ c => regionOf n c
  | .scope c => regionOf n c
  | .cond _ a b => match regionOf n a with
    | some c => some c
    | none => regionOf n b
  | _ => none
def firstRegion : Code → Option Nat
  | .region i _ _ => some i
  | .loop c => firstRegion c
  | .seq a b => match firstRegion a with
    | some c => some c
    | none => firstRegion b
  | .block _ c => firstRegion c
  | .scope c => firstRegion c
  | .cond _ a b => match firstRegion a with
    | some c => some c
    | none => firstRegion b
  | _ => none
/-- the loop whose first region has this number -/
def loopOf (n : Nat) : Code → Option Code
  | .loop c => if firstRegion c = some n then some (.loop c) else loopOf n c
  | .seq a b => match loopOf n a with
    | some c => some c
    | none => loopOf n b
  | .block _ c => loopOf n c
  | .scope c => loopOf n c
  | .cond _ a b => match loopOf n a with
    | some c => some c
    | none => loopOf n b
  | _ => none
end Go.Proofs.YtkbjpgfdmkmbmaaDoor
