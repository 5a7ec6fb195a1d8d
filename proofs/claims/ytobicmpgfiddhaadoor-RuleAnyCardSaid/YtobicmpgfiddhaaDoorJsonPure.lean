/- JSON as functions of lists: values, their texts, and the document's reader of them; nothing of the program. -/
import Derived.Lib.Bytealg
namespace Go.Proofs.YtobicmpgfiddhaaDoor

inductive V where
  | mk (kind num : Int) (text : List UInt8) (list : List V) (keys : List (List UInt8))
def V.kind : V → Int
  | .mk k _ _ _ _ => k
def V.num : V → Int
  | .mk _ n _ _ _ => n
def V.text : V → List UInt8
  | .mk _ _ t _ _ => t
def V.list : V → List V
  | .mk _ _ _ l _ => l
def V.keys : V → List (List UInt8)
  | .mk _ _ _ _ ks => ks
def V.zero : V := .mk 0 0 [] [] []

/-- no two alike -/
def unlikeB : List (List UInt8) → Bool
  | [] => true
  | k :: r => !r.contains k && unlikeB r
/-- what a value must be by itself -/
def headB (k n : Int) (t : List UInt8) (ll : Nat) (ks : List (List UInt8)) : Bool :=
  decide (1 ≤ k ∧ k ≤ 6) && decide (k = 2 → n = 0 ∨ n = 1) && decide (k = 3 → -9007199254740992 ≤ n ∧ n ≤ 9007199254740992) && decide (k ≠ 2 → k ≠ 3 → n = 0) &&
  decide (k ≠ 4 → t = []) && decide (k ≠ 5 → k ≠ 6 → ll = 0) && decide (ll ≤ 64) && decide (k = 6 → ks.length = ll) && decide (k ≠ 6 → ks = []) && unlikeB ks
mutual
/-- good, and at most d deep -/
def V.fits : V → Nat → Bool
  | .mk k n t l ks, d => match d with
    | 0 => false
    | d + 1 => headB k n t l.length ks && V.fitsAll l d
def V.fitsAll : List V → Nat → Bool
  | [], _ => true
  | v :: r, d => v.fits d && V.fitsAll r d
end

/-! ## texts -/
def digit (n : Nat) : UInt8 := UInt8.ofNat (48 + n % 10)
/-- a number's digits -/
def decL (n : Nat) : List UInt8 := if n < 10 then [digit n] else decL (n / 10) ++ [digit n]
termination_by n
def decI (n : Int) : List UInt8 := if n < 0 then 45 :: decL n.natAbs else decL n.natAbs
def hexl (n : Nat) : UInt8 := if n < 10 then UInt8.ofNat (48 + n) else UInt8.ofNat (87 + n)
def quoteC (c : UInt8) : List UInt8 := if c = 34 ∨ c = 92 then [92, c] else if c.toNat < 32 then [92, 117, 48, 48, UInt8.ofNat (48 + c.toNat / 16), hexl (c.toNat % 16)] else [c]
/-- a text, as it stands: behind its first sign -/
def quoteT : List UInt8 → List UInt8
  | [] => [34]
  | c :: r => quoteC c ++ quoteT r
def quoteJ (t : List UInt8) : List UInt8 := 34 :: quoteT t
def nullT : List UInt8 := [110, 117, 108, 108]
def trueT : List UInt8 := [116, 114, 117, 101]
def falseT : List UInt8 := [102, 97, 108, 115, 101]
mutual
def V.show : V → List UInt8
  | .mk k n t l ks => if k = 1 then nullT else if k = 2 then (if n = 1 then trueT else falseT) else if k = 3 then decI n else if k = 4 then quoteJ t else
    if k = 5 then 91 :: (V.items l ++ [93]) else 123 :: (V.pairs l ks ++ [125])
/-- what stands in a list -/
def V.items : List V → List UInt8
  | [] => []
  | v :: r => v.show ++ V.itemsMore r
def V.itemsMore : List V → List UInt8
  | [] => []
  | v :: r => 44 :: (v.show ++ V.itemsMore r)
/-- what stands in an object -/
def V.pairs : List V → List (List UInt8) → List UInt8
  | [], _ => []
  | v :: r, ks => quoteJ (ks.headD []) ++ 58 :: (v.show ++ V.pairsMore r ks.tail)
def V.pairsMore : List V → List (List UInt8) → List UInt8
  | [], _ => []
  | v :: r, ks => 44 :: (quoteJ (ks.headD []) ++ 58 :: (v.show ++ V.pairsMore r ks.tail))
end

/-! ## the reader -/
def beginsB (s t : List UInt8) : Bool := s.take t.length == t
def isDigit (c : UInt8) : Bool := decide (48 ≤ c.toNat ∧ c.toNat ≤ 57)
/-- a hexadecimal digit's number; -1: none -/
def hexJ (c : UInt8) : Int := if 48 ≤ c.toNat ∧ c.toNat ≤ 57 then c.toNat - 48 else if 97 ≤ c.toNat ∧ c.toNat ≤ 102 then c.toNat - 87 else if 65 ≤ c.toNat ∧ c.toNat ≤ 70 then c.toNat - 55 else -1
/-- behind a text's first sign: the text, and how many bytes; none: there is no end -/
def wordT : List UInt8 → List UInt8 → Nat → Option (List UInt8 × Nat)
  | [], _, _ => none
  | c :: r, acc, n =>
    if c = 34 then some (acc, n + 1)
    else if c = 92 then
      match r with
      | e :: r' =>
        if e = 34 ∨ e = 92 then wordT r' (acc ++ [e]) (n + 2)
        else match r' with
          | x :: y :: h :: l :: r'' => if e = 117 ∧ x = 48 ∧ y = 48 ∧ 0 ≤ hexJ h ∧ 0 ≤ hexJ l then wordT r'' (acc ++ [UInt8.ofNat (16 * hexJ h + hexJ l).toNat]) (n + 6) else none
          | _ => none
      | [] => none
    else wordT r (acc ++ [c]) (n + 1)
/-- digits, at most so many: the number, and how many -/
def numT : List UInt8 → Nat → Int → Nat → Int × Nat
  | [], _, v, n => (v, n)
  | _, 0, v, n => (v, n)
  | c :: r, m + 1, v, n => if isDigit c then numT r m (v * 10 + (c.toNat - 48 : Int)) (n + 1) else (v, n)

theorem unlike_nodup (l : List (List UInt8)) : unlikeB l = true ↔ l.Nodup := by
  induction l with
  | nil => simp [unlikeB]
  | cons a r ih => simp [unlikeB, ih]

/-! ### a text is read again -/
theorem hexl_back (n : Nat) (h : n < 16) : hexJ (hexl n) = n := by
  have : ∀ n : Fin 16, hexJ (hexl n.val) = (n.val : Int) := by decide +kernel
  exact this ⟨n, h⟩
theorem hexs_back (n : Nat) (h : n < 2) : hexJ (UInt8.ofNat (48 + n)) = n := by
  have : ∀ n : Fin 2, hexJ (UInt8.ofNat (48 + n.val)) = (n.val : Int) := by decide +kernel
  exact this ⟨n, h⟩
theorem wordT_quote (t r acc : List UInt8) (n : Nat) : wordT (quoteT t ++ r) acc n = some (acc ++ t, n + (quoteT t).length) := by
  induction t generalizing acc n with
  | nil => rw [quoteT]; unfold wordT; simp
  | cons c t ih =>
    rw [quoteT]
    by_cases h : c = 34 ∨ c = 92
    · rw [quoteC, if_pos h, List.append_assoc]
      show wordT (92 :: c :: (quoteT t ++ r)) acc n = _
      unfold wordT
      rw [if_neg (by decide), if_pos rfl]
      simp only [h, if_true]
      rw [ih]; simp; omega
    · by_cases h2 : c.toNat < 32
      · rw [quoteC, if_neg h, if_pos h2, List.append_assoc]
        show wordT (92 :: 117 :: 48 :: 48 :: UInt8.ofNat (48 + c.toNat / 16) :: hexl (c.toNat % 16) :: (quoteT t ++ r)) acc n = _
        have e1 := hexs_back (c.toNat / 16) (by omega)
        have e2 := hexl_back (c.toNat % 16) (by omega)
        have e3 : UInt8.ofNat (16 * hexJ (UInt8.ofNat (48 + c.toNat / 16)) + hexJ (hexl (c.toNat % 16))).toNat = c := by
          rw [e1, e2]
          have : (16 * ((c.toNat / 16 : Nat) : Int) + ((c.toNat % 16 : Nat) : Int)).toNat = c.toNat := by omega
          rw [this]; exact UInt8.ofNat_toNat
        unfold wordT
        rw [if_neg (by decide), if_pos rfl]
        dsimp only
        rw [if_neg (by decide), if_pos ⟨rfl, rfl, rfl, by rw [e1]; omega, by rw [e2]; omega⟩, e3, ih]
        simp; omega
      · have h3 : c ≠ 34 := fun e => h (Or.inl e)
        have h4 : c ≠ 92 := fun e => h (Or.inr e)
        rw [quoteC, if_neg h, if_neg h2, List.append_assoc]
        show wordT (c :: (quoteT t ++ r)) acc n = _
        unfold wordT
        rw [if_neg h3, if_neg h4, ih]; simp; omega
/-! ### a number is read again -/
theorem digit_is (n : Nat) : isDigit (digit n) = true := by
  unfold isDigit digit
  have h : (UInt8.ofNat (48 + n % 10)).toNat = 48 + n % 10 := by rw [UInt8.toNat_ofNat']; omega
  rw [h]; simp; omega
theorem digit_val (n : Nat) : ((digit n).toNat : Int) - 48 = (n % 10 : Nat) := by
  unfold digit
  have h : (UInt8.ofNat (48 + n % 10)).toNat = 48 + n % 10 := by rw [UInt8.toNat_ofNat']; omega
  rw [h]; omega
theorem decL_pos (n : Nat) : 0 < (decL n).length := by
  unfold decL; split <;> simp
theorem decL_len (n : Nat) : ∀ k, n < 10 ^ k → 0 < k → (decL n).length ≤ k := by
  induction n using Nat.strongRecOn with
  | _ n ih =>
    intro k hk h0
    unfold decL
    split
    · simp; omega
    · rename_i h10
      obtain ⟨j, rfl⟩ : ∃ j, k = j + 1 := ⟨k - 1, by omega⟩
      have hj : n / 10 < 10 ^ j := by rw [Nat.pow_succ] at hk; omega
      have h0j : 0 < j := by
        rcases Nat.eq_zero_or_pos j with rfl | h
        · simp at hk; omega
        · exact h
      have := ih (n / 10) (by omega) j hj h0j
      rw [List.length_append, List.length_singleton]; omega
theorem numT_dec (n : Nat) : ∀ (r : List UInt8) (m k : Nat) (v : Int), (decL n).length ≤ m → numT (decL n ++ r) m v k = numT r (m - (decL n).length) (v * 10 ^ (decL n).length + n) (k + (decL n).length) := by
  induction n using Nat.strongRecOn with
  | _ n ih =>
    intro r m k v hm
    by_cases h : n < 10
    · have e : decL n = [digit n] := by unfold decL; rw [if_pos h]
      rw [e] at hm ⊢
      obtain ⟨j, rfl⟩ : ∃ j, m = j + 1 := ⟨m - 1, by simp at hm; omega⟩
      show numT (digit n :: r) (j + 1) v k = _
      rw [numT, if_pos (digit_is n), digit_val]
      simp [Nat.mod_eq_of_lt h]
    · have e : decL n = decL (n / 10) ++ [digit n] := by rw [decL, if_neg h]
      rw [e] at hm ⊢
      have hl : (decL (n / 10)).length + 1 ≤ m := by simpa using hm
      rw [List.append_assoc, ih (n / 10) (by omega) _ m k v (by omega)]
      obtain ⟨j, hj⟩ : ∃ j, m - (decL (n / 10)).length = j + 1 := ⟨m - (decL (n / 10)).length - 1, by omega⟩
      rw [hj]
      show numT (digit n :: r) (j + 1) _ _ = _
      rw [numT, if_pos (digit_is n), digit_val, List.length_append, List.length_singleton]
      have e2 : m - ((decL (n / 10)).length + 1) = j := by omega
      rw [e2]
      congr 1
      rw [Int.pow_succ]
      have : (n : Int) = (n / 10 : Nat) * 10 + (n % 10 : Nat) := by omega
      rw [Int.add_mul, Int.mul_assoc, Int.add_assoc]
      omega
/-- where no digit stands, no more is read -/
def noDigit : List UInt8 → Bool
  | [] => true
  | c :: _ => !isDigit c
theorem numT_stop (r : List UInt8) (m : Nat) (v : Int) (k : Nat) (h : noDigit r = true) : numT r m v k = (v, k) := by
  cases r with
  | nil => rfl
  | cons c r =>
    cases m with
    | zero => rfl
    | succ m => rw [numT]; simp only [noDigit, Bool.not_eq_true'] at h; rw [h]; rfl
end Go.Proofs.YtobicmpgfiddhaaDoor
