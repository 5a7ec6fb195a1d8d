/- Texts merged by program, in build order: OpenBytes, OpenActs, JsonPure, TextsPure, RowVals, OpenRow. -/
import Derived.Test.YtlcpehmdhnakpaaDoorG01
import Derived.ProofKit
import Derived.ChangeMaps5
import Derived.Deep.Slices
import Derived.SizedLaws
import Derived.Lib.Bytealg
set_option linter.unusedVariables false
set_option linter.unusedSimpArgs false
namespace Go.Proofs.YtlcpehmdhnakpaaDoor
open Go.ChangeShapes Go.WideShapes Go.ChangeAt Go.RowKit
set_option linter.unusedVariables false

theorem Tryd.laidOutBy : laidOutB Tryd.prog = true := by kernel_rfl
theorem Tryd.cellsByteO : Tryd.prog.cellsOf 5 = 1 := by kernel_rfl
set_option maxRecDepth 100000 in
/-- what is read of a slice of bytes: the bytes -/
theorem open_bytes {H : Type} {enc : TypeId × Value → H} {W : World} {base : Nat} {v : Value} {d : DataW H} {ps : List MemPlace} (hval : Value.okWide Tryd.prog W .any base 62 v)
    (hd : DataW.Trod enc Tryd.prog W 0 (fun _ => true) true 62 v d ps) (hlt : ∀ x ∈ ps, x.block < W.heap.size) (hwt : ∀ n ∈ d.weights Tryd.prog 62, n ≤ reachBytes) :
    ∃ (A : Option Addr) (c : Nat) (l : List UInt8), v = .slice A l.length c ∧ RdAt W (.slice A l.length c) l := by
  have hv2 := hval
  obtain ⟨a0, len, cap, rfl⟩ := okWide_slice Tryd.underlying62 hval
  obtain ⟨fuel, hf⟩ := hd
  rcases Go.Deep.open_slice1 Tryd.underlying62 Tryd.cellsByteO hf with ⟨hcs, hx⟩ | ⟨a, len', cap', m, n, V, D, Pl, hcs, _, hl, hm, hmm, hx, hi⟩
  · simp [Value.cells] at hcs
    obtain ⟨rfl, rfl, rfl⟩ := hcs
    exact ⟨none, 0, [], rfl, RdAt.nil _⟩
  · simp [Value.cells] at hcs
    obtain ⟨rfl, rfl, rfl⟩ := hcs
    simp only [Value.okWide, Cell.okWide, Cell.ok, Tryd.underlying62] at hv2
    obtain ⟨_, hcap, -, hspot, row, cells0, hshape, -⟩ := hv2
    obtain ⟨g, o, spot⟩ := a
    obtain rfl : spot = none := hspot
    have hg : g < W.heap.size := by
      unfold World.shape? at hshape
      split at hshape
      · rename_i hgb
        exact (Array.getElem?_eq_some_iff.1 hgb).1
      · cases hshape
    have hall : ∀ i, ∃ x : UInt8, i < m → W.cell? ((⟨g, o, none⟩ : Addr).add i) = some (.int .u8 (x.toNat : Int)) := by
      intro i
      by_cases him : i < m
      · obtain ⟨h1, h2⟩ := hi i him
        obtain ⟨n', hn', _, hw⟩ := DataW.trod_int Tryd.underlying5 h2
        obtain ⟨c, rfl⟩ := byte_ex hw
        rw [List.singleton_inj] at hn'
        exact ⟨c, fun _ => by rw [h1, hn']⟩
      · exact ⟨0, fun h => absurd h him⟩
    obtain ⟨f, hf⟩ := Classical.axiomOfChoice hall
    simp only [if_true] at hmm
    refine ⟨some ⟨g, o, none⟩, cap, (List.range len).map f, by simp, some ⟨g, o, none⟩, cap, rfl, by simpa using hl, ?_, .inr ⟨g, o, rfl, hg, fun j u hu => ?_⟩⟩
    · have : IntKind.i64.max = 9223372036854775807 := by decide
      omega
    · have hj : j < len := by
        have := (List.getElem?_eq_some_iff.1 hu).1
        simpa [cells] using this
      rw [hf j (by omega)]
      simp [cells, hj] at hu
      rw [← hu]
end Go.Proofs.YtlcpehmdhnakpaaDoor
namespace Go.Proofs.YtlcpehmdhnakpaaDoor
open Go.ChangeShapes Go.WideShapes Go.ChangeAt Go.RowKit
set_option linter.unusedVariables false

theorem spot_none_b {W : World} {a : Addr} {v : Value} (h : W.cell? a = some v) : a = ⟨a.block, a.off, none⟩ ∧ a.block < W.heap.size := by
  obtain ⟨b, o, sp⟩ := a
  unfold World.cell? at h
  split at h
  · rename_i hb
    cases sp with
    | none => exact ⟨rfl, (Array.getElem?_eq_some_iff.1 hb).1⟩
    | some z => simp at h
  · cases h
set_option maxRecDepth 100000 in
/-- a cell that is a slice of bytes, as bytes -/
theorem bytes_of_trod {H : Type} {enc : TypeId × Value → H} {W : World} {fuel : Nat} {cs : List Value} {x : DataW H × List MemPlace}
    (h : DataW.trod enc Tryd.prog W 0 (fun _ => true) true fuel 62 cs = some x) :
    ∃ (A : Option Addr) (c : Nat) (l : List UInt8), cs = [.slice A l.length c] ∧ RdW W (.slice A l.length c) l := by
  rcases Go.Deep.open_slice1 Tryd.underlying62 Tryd.cellsByteO h with ⟨rfl, rfl⟩ | ⟨a, len, cap, m, n, V, D, Pl, rfl, _, hl, hm, hmm, rfl, hi⟩
  · exact ⟨none, 0, [], rfl, (RdAt.nil _).weak⟩
  · simp only [if_true] at hmm
    subst hmm
    have hm2 : m ≤ 9223372036854775807 := by unfold maxLen at hm; omega
    by_cases h0 : m = 0
    · subst h0
      obtain rfl : len = 0 := by omega
      exact ⟨some a, 0, [], rfl, some a, 0, rfl, Nat.le_refl _, Nat.zero_le _, .inl ⟨rfl, rfl⟩⟩
    · obtain ⟨he, hg⟩ := spot_none_b (hi 0 (by omega)).1
      have he : a = ⟨a.block, a.off, none⟩ := by
        obtain ⟨b, o, sp⟩ := a
        simp only [Addr.add] at he
        injection he with e1 e2 e3
        simp only at e3 ⊢
        rw [e3]
      have hg : a.block < W.heap.size := by simpa [Addr.add] using hg
      have hall : ∀ i, ∃ x : UInt8, i < m → W.cell? (a.add i) = some (.int .u8 (x.toNat : Int)) := by
        intro i
        by_cases him : i < m
        · obtain ⟨h1, h2⟩ := hi i him
          obtain ⟨n', hn', _, hw⟩ := DataW.trod_int Tryd.underlying5 h2
          obtain ⟨c, rfl⟩ := byte_ex hw
          rw [List.singleton_inj] at hn'
          exact ⟨c, fun _ => by rw [h1, hn']⟩
        · exact ⟨0, fun h => absurd h him⟩
      obtain ⟨f, hf⟩ := Classical.axiomOfChoice hall
      refine ⟨some a, m, (List.range len).map f, by simp, some a, m, rfl, by simpa using hl, hm2, .inr ⟨a.block, a.off, by rw [← he], hg, fun j u hu => ?_⟩⟩
      have hj : j < len := by
        have := (List.getElem?_eq_some_iff.1 hu).1
        simpa [cells] using this
      rw [← he, hf j (by omega)]
      simp [cells, hj] at hu
      rw [← hu]
end Go.Proofs.YtlcpehmdhnakpaaDoor
namespace Go.Proofs.YtlcpehmdhnakpaaDoor

inductive V where
  | mk (kind num : Int) (text : List UInt8) (list : List V) (keys : List (List UInt8))
def V.kind : V → Int
  | .mk k _ _ _ _ => k
def V.num : V → Int
  | .mk _ n _ _ _ => n
def V.text : V → List UInt8
  | .mk _ _ t _ _ => t
def V.list : V → List V
  | .mk _ _ _ l _ => l
def V.keys : V → List (List UInt8)
  | .mk _ _ _ _ ks => ks
def V.zero : V := .mk 0 0 [] [] []

/-- no two alike -/
def unlikeB : List (List UInt8) → Bool
  | [] => true
  | k :: r => !r.contains k && unlikeB r
/-- what a value must be by itself -/
def headB (k n : Int) (t : List UInt8) (ll : Nat) (ks : List (List UInt8)) : Bool :=
  decide (1 ≤ k ∧ k ≤ 6) && decide (k = 2 → n = 0 ∨ n = 1) && decide (k = 3 → -9007199254740992 ≤ n ∧ n ≤ 9007199254740992) && decide (k ≠ 2 → k ≠ 3 → n = 0) &&
  decide (k ≠ 4 → t = []) && decide (k ≠ 5 → k ≠ 6 → ll = 0) && decide (ll ≤ 64) && decide (k = 6 → ks.length = ll) && decide (k ≠ 6 → ks = []) && unlikeB ks
mutual
/-- good, and at most d deep -/
def V.fits : V → Nat → Bool
  | .mk k n t l ks, d => match d with
    | 0 => false
    | d + 1 => headB k n t l.length ks && V.fitsAll l d
def V.fitsAll : List V → Nat → Bool
  | [], _ => true
  | v :: r, d => v.fits d && V.fitsAll r d
end

/-! ## texts -/
def digit (n : Nat) : UInt8 := UInt8.ofNat (48 + n % 10)
/-- a number's digits -/
def decL (n : Nat) : List UInt8 := if n < 10 then [digit n] else decL (n / 10) ++ [digit n]
termination_by n
def decI (n : Int) : List UInt8 := if n < 0 then 45 :: decL n.natAbs else decL n.natAbs
def hexl (n : Nat) : UInt8 := if n < 10 then UInt8.ofNat (48 + n) else UInt8.ofNat (87 + n)
def quoteC (c : UInt8) : List UInt8 := if c = 34 ∨ c = 92 then [92, c] else if c.toNat < 32 then [92, 117, 48, 48, UInt8.ofNat (48 + c.toNat / 16), hexl (c.toNat % 16)] else [c]
/-- a text, as it stands: behind its first sign -/
def quoteT : List UInt8 → List UInt8
  | [] => [34]
  | c :: r => quoteC c ++ quoteT r
def quoteJ (t : List UInt8) : List UInt8 := 34 :: quoteT t
def nullT : List UInt8 := [110, 117, 108, 108]
def trueT : List UInt8 := [116, 114, 117, 101]
def falseT : List UInt8 := [102, 97, 108, 115, 101]
mutual
def V.show : V → List UInt8
  | .mk k n t l ks => if k = 1 then nullT else if k = 2 then (if n = 1 then trueT else falseT) else if k = 3 then decI n else if k = 4 then quoteJ t else
    if k = 5 then 91 :: (V.items l ++ [93]) else 123 :: (V.pairs l ks ++ [125])
/-- what stands in a list -/
def V.items : List V → List UInt8
  | [] => []
  | v :: r => v.show ++ V.itemsMore r
def V.itemsMore : List V → List UInt8
  | [] => []
  | v :: r => 44 :: (v.show ++ V.itemsMore r)
/-- what stands in an object -/
def V.pairs : List V → List (List UInt8) → List UInt8
  | [], _ => []
  | v :: r, ks => quoteJ (ks.headD []) ++ 58 :: (v.show ++ V.pairsMore r ks.tail)
def V.pairsMore : List V → List (List UInt8) → List UInt8
  | [], _ => []
  | v :: r, ks => 44 :: (quoteJ (ks.headD []) ++ 58 :: (v.show ++ V.pairsMore r ks.tail))
end

/-! ## the reader -/
def beginsB (s t : List UInt8) : Bool := s.take t.length == t
def isDigit (c : UInt8) : Bool := decide (48 ≤ c.toNat ∧ c.toNat ≤ 57)
/-- a hexadecimal digit's number; -1: none -/
def hexJ (c : UInt8) : Int := if 48 ≤ c.toNat ∧ c.toNat ≤ 57 then c.toNat - 48 else if 97 ≤ c.toNat ∧ c.toNat ≤ 102 then c.toNat - 87 else if 65 ≤ c.toNat ∧ c.toNat ≤ 70 then c.toNat - 55 else -1
/-- behind a text's first sign: the text, and how many bytes; none: there is no end -/
def wordT : List UInt8 → List UInt8 → Nat → Option (List UInt8 × Nat)
  | [], _, _ => none
  | c :: r, acc, n =>
    if c = 34 then some (acc, n + 1)
    else if c = 92 then
      match r with
      | e :: r' =>
        if e = 34 ∨ e = 92 then wordT r' (acc ++ [e]) (n + 2)
        else match r' with
          | x :: y :: h :: l :: r'' => if e = 117 ∧ x = 48 ∧ y = 48 ∧ 0 ≤ hexJ h ∧ 0 ≤ hexJ l then wordT r'' (acc ++ [UInt8.ofNat (16 * hexJ h + hexJ l).toNat]) (n + 6) else none
          | _ => none
      | [] => none
    else wordT r (acc ++ [c]) (n + 1)
/-- digits, at most so many: the number, and how many -/
def numT : List UInt8 → Nat → Int → Nat → Int × Nat
  | [], _, v, n => (v, n)
  | _, 0, v, n => (v, n)
  | c :: r, m + 1, v, n => if isDigit c then numT r m (v * 10 + (c.toNat - 48 : Int)) (n + 1) else (v, n)

theorem unlike_nodup (l : List (List UInt8)) : unlikeB l = true ↔ l.Nodup := by
  induction l with
  | nil => simp [unlikeB]
  | cons a r ih => simp [unlikeB, ih]

/-! ### a text is read again -/
theorem hexl_back (n : Nat) (h : n < 16) : hexJ (hexl n) = n := by
  have : ∀ n : Fin 16, hexJ (hexl n.val) = (n.val : Int) := by decide +kernel
  exact this ⟨n, h⟩
theorem hexs_back (n : Nat) (h : n < 2) : hexJ (UInt8.ofNat (48 + n)) = n := by
  have : ∀ n : Fin 2, hexJ (UInt8.ofNat (48 + n.val)) = (n.val : Int) := by decide +kernel
  exact this ⟨n, h⟩
theorem wordT_quote (t r acc : List UInt8) (n : Nat) : wordT (quoteT t ++ r) acc n = some (acc ++ t, n + (quoteT t).length) := by
  induction t generalizing acc n with
  | nil => rw [quoteT]; unfold wordT; simp
  | cons c t ih =>
    rw [quoteT]
    by_cases h : c = 34 ∨ c = 92
    · rw [quoteC, if_pos h, List.append_assoc]
      show wordT (92 :: c :: (quoteT t ++ r)) acc n = _
      unfold wordT
      rw [if_neg (by decide), if_pos rfl]
      simp only [h, if_true]
      rw [ih]; simp; omega
    · by_cases h2 : c.toNat < 32
      · rw [quoteC, if_neg h, if_pos h2, List.append_assoc]
        show wordT (92 :: 117 :: 48 :: 48 :: UInt8.ofNat (48 + c.toNat / 16) :: hexl (c.toNat % 16) :: (quoteT t ++ r)) acc n = _
        have e1 := hexs_back (c.toNat / 16) (by omega)
        have e2 := hexl_back (c.toNat % 16) (by omega)
        have e3 : UInt8.ofNat (16 * hexJ (UInt8.ofNat (48 + c.toNat / 16)) + hexJ (hexl (c.toNat % 16))).toNat = c := by
          rw [e1, e2]
          have : (16 * ((c.toNat / 16 : Nat) : Int) + ((c.toNat % 16 : Nat) : Int)).toNat = c.toNat := by omega
          rw [this]; exact UInt8.ofNat_toNat
        unfold wordT
        rw [if_neg (by decide), if_pos rfl]
        dsimp only
        rw [if_neg (by decide), if_pos ⟨rfl, rfl, rfl, by rw [e1]; omega, by rw [e2]; omega⟩, e3, ih]
        simp; omega
      · have h3 : c ≠ 34 := fun e => h (Or.inl e)
        have h4 : c ≠ 92 := fun e => h (Or.inr e)
        rw [quoteC, if_neg h, if_neg h2, List.append_assoc]
        show wordT (c :: (quoteT t ++ r)) acc n = _
        unfold wordT
        rw [if_neg h3, if_neg h4, ih]; simp; omega
/-! ### a number is read again -/
theorem digit_is (n : Nat) : isDigit (digit n) = true := by
  unfold isDigit digit
  have h : (UInt8.ofNat (48 + n % 10)).toNat = 48 + n % 10 := by rw [UInt8.toNat_ofNat']; omega
  rw [h]; simp; omega
theorem digit_val (n : Nat) : ((digit n).toNat : Int) - 48 = (n % 10 : Nat) := by
  unfold digit
  have h : (UInt8.ofNat (48 + n % 10)).toNat = 48 + n % 10 := by rw [UInt8.toNat_ofNat']; omega
  rw [h]; omega
theorem decL_pos (n : Nat) : 0 < (decL n).length := by
  unfold decL; split <;> simp
theorem decL_len (n : Nat) : ∀ k, n < 10 ^ k → 0 < k → (decL n).length ≤ k := by
  induction n using Nat.strongRecOn with
  | _ n ih =>
    intro k hk h0
    unfold decL
    split
    · simp; omega
    · rename_i h10
      obtain ⟨j, rfl⟩ : ∃ j, k = j + 1 := ⟨k - 1, by omega⟩
      have hj : n / 10 < 10 ^ j := by rw [Nat.pow_succ] at hk; omega
      have h0j : 0 < j := by
        rcases Nat.eq_zero_or_pos j with rfl | h
        · simp at hk; omega
        · exact h
      have := ih (n / 10) (by omega) j hj h0j
      rw [List.length_append, List.length_singleton]; omega
theorem numT_dec (n : Nat) : ∀ (r : List UInt8) (m k : Nat) (v : Int), (decL n).length ≤ m → numT (decL n ++ r) m v k = numT r (m - (decL n).length) (v * 10 ^ (decL n).length + n) (k + (decL n).length) := by
  induction n using Nat.strongRecOn with
  | _ n ih =>
    intro r m k v hm
    by_cases h : n < 10
    · have e : decL n = [digit n] := by unfold decL; rw [if_pos h]
      rw [e] at hm ⊢
      obtain ⟨j, rfl⟩ : ∃ j, m = j + 1 := ⟨m - 1, by simp at hm; omega⟩
      show numT (digit n :: r) (j + 1) v k = _
      rw [numT, if_pos (digit_is n), digit_val]
      simp [Nat.mod_eq_of_lt h]
    · have e : decL n = decL (n / 10) ++ [digit n] := by rw [decL, if_neg h]
      rw [e] at hm ⊢
      have hl : (decL (n / 10)).length + 1 ≤ m := by simpa using hm
      rw [List.append_assoc, ih (n / 10) (by omega) _ m k v (by omega)]
      obtain ⟨j, hj⟩ : ∃ j, m - (decL (n / 10)).length = j + 1 := ⟨m - (decL (n / 10)).length - 1, by omega⟩
      rw [hj]
      show numT (digit n :: r) (j + 1) _ _ = _
      rw [numT, if_pos (digit_is n), digit_val, List.length_append, List.length_singleton]
      have e2 : m - ((decL (n / 10)).length + 1) = j := by omega
      rw [e2]
      congr 1
      rw [Int.pow_succ]
      have : (n : Int) = (n / 10 : Nat) * 10 + (n % 10 : Nat) := by omega
      rw [Int.add_mul, Int.mul_assoc, Int.add_assoc]
      omega
/-- where no digit stands, no more is read -/
def noDigit : List UInt8 → Bool
  | [] => true
  | c :: _ => !isDigit c
theorem numT_stop (r : List UInt8) (m : Nat) (v : Int) (k : Nat) (h : noDigit r = true) : numT r m v k = (v, k) := by
  cases r with
  | nil => rfl
  | cons c r =>
    cases m with
    | zero => rfl
    | succ m => rw [numT]; simp only [noDigit, Bool.not_eq_true'] at h; rw [h]; rfl
end Go.Proofs.YtlcpehmdhnakpaaDoor
namespace Go.Proofs.YtlcpehmdhnakpaaDoor
set_option linter.unusedVariables false

/-- the number of decimal digits -/
def dvalF (n : Nat) (c : UInt8) : Nat := n * 10 + (c.toNat - 48)
def dval (l : List UInt8) : Nat := l.foldl dvalF 0
theorem dval_nil : dval [] = 0 := rfl
theorem dval_snoc (l : List UInt8) (c : UInt8) : dval (l ++ [c]) = dval l * 10 + (c.toNat - 48) := by simp [dval, dvalF]
theorem dval_decL (n : Nat) : dval (decL n) = n := by
  induction n using Nat.strongRecOn with
  | _ n ih =>
    have hv := digit_val n
    by_cases h : n < 10
    · have e : decL n = [digit n] := by unfold decL; rw [if_pos h]
      rw [e]
      show 0 * 10 + ((digit n).toNat - 48) = n
      omega
    · have e : decL n = decL (n / 10) ++ [digit n] := by rw [decL, if_neg h]
      rw [e, dval_snoc, ih (n / 10) (by omega)]
      omega
theorem dval_more (a b : List UInt8) : dval a ≤ dval (a ++ b) := by
  induction b generalizing a with
  | nil => simp
  | cons c b ih =>
    have e : a ++ c :: b = (a ++ [c]) ++ b := by simp
    rw [e]
    have h1 := ih (a ++ [c])
    rw [dval_snoc] at h1
    omega
theorem decL_all (n : Nat) : ∀ c ∈ decL n, isDigit c = true := by
  induction n using Nat.strongRecOn with
  | _ n ih =>
    intro c hc
    by_cases h : n < 10
    · have e : decL n = [digit n] := by unfold decL; rw [if_pos h]
      rw [e, List.mem_singleton] at hc
      rw [hc]; exact digit_is n
    · have e : decL n = decL (n / 10) ++ [digit n] := by rw [decL, if_neg h]
      rw [e, List.mem_append, List.mem_singleton] at hc
      rcases hc with hc | rfl
      · exact ih (n / 10) (by omega) c hc
      · exact digit_is n
theorem isDigit_val {c : UInt8} (h : isDigit c = true) : 48 ≤ c.toNat ∧ c.toNat ≤ 57 := by
  unfold isDigit at h
  exact of_decide_eq_true h
theorem digit_of {c : UInt8} (h : isDigit c = true) (n : Nat) (hn : n % 10 = c.toNat - 48) : digit n = c := by
  have h1 := isDigit_val h
  apply UInt8.toNat_inj.1
  unfold digit
  rw [UInt8.toNat_ofNat']
  omega
/-- decimal digits without a nought ahead are those of their number -/
theorem decL_dval : ∀ (k : Nat) (d : List UInt8), d.length = k → d ≠ [] → (∀ c ∈ d, isDigit c = true) → (1 < d.length → d.head? ≠ some 48) → decL (dval d) = d ∧ (1 < d.length → 10 ^ (d.length - 1) ≤ dval d)
  | 0, d, hk, h0, _, _ => absurd (List.length_eq_zero_iff.1 hk) h0
  | 1, d, hk, h0, hd, _ => by
    obtain ⟨c, rfl⟩ := List.length_eq_one_iff.1 hk
    have hc := hd c (List.mem_singleton.2 rfl)
    have h1 := isDigit_val hc
    have e : dval [c] = c.toNat - 48 := by show 0 * 10 + (c.toNat - 48) = _; omega
    refine ⟨?_, fun h => absurd h (by simp)⟩
    rw [e]
    unfold decL
    rw [if_pos (by omega), digit_of hc _ (by omega)]
  | k + 2, d, hk, h0, hd, hz => by
    have hne : d ≠ [] := h0
    obtain ⟨d', c, rfl⟩ : ∃ d' c, d = d' ++ [c] := ⟨d.dropLast, d.getLast hne, (List.dropLast_concat_getLast hne).symm⟩
    rw [List.length_append, List.length_singleton] at hk
    have hk' : d'.length = k + 1 := by omega
    have hne' : d' ≠ [] := by intro e; rw [e] at hk'; simp at hk'
    have hc := hd c (by simp)
    have h1 := isDigit_val hc
    have hh : (d' ++ [c]).head? = d'.head? := by
      cases d' with
      | nil => exact absurd rfl hne'
      | cons x r => rfl
    have hz' : d'.head? ≠ some 48 := by rw [← hh]; exact hz (by rw [List.length_append, List.length_singleton]; omega)
    obtain ⟨i1, i2⟩ := decL_dval (k + 1) d' hk' hne' (fun x hx => hd x (by simp [hx])) (fun _ => hz')
    have hpos : 1 ≤ dval d' := by
      by_cases hk1 : 1 < d'.length
      · exact Nat.le_trans (Nat.one_le_pow _ _ (by decide)) (i2 hk1)
      · obtain ⟨x, rfl⟩ := List.length_eq_one_iff.1 (show d'.length = 1 by omega)
        have hx := isDigit_val (hd x (by simp))
        have hx2 : x.toNat ≠ 48 := fun e => hz' (by
          have : x = 48 := by apply UInt8.toNat_inj.1; rw [e]; rfl
          rw [this]; rfl)
        show 1 ≤ 0 * 10 + (x.toNat - 48)
        omega
    rw [dval_snoc]
    refine ⟨?_, fun _ => ?_⟩
    · rw [decL, if_neg (by omega), show (dval d' * 10 + (c.toNat - 48)) / 10 = dval d' by omega, i1, digit_of hc _ (by omega)]
    · rw [List.length_append, List.length_singleton, show d'.length + 1 - 1 = d'.length by omega]
      by_cases hk1 : 1 < d'.length
      · have h2 := i2 hk1
        have e : 10 ^ d'.length = 10 ^ (d'.length - 1) * 10 := by rw [← Nat.pow_succ]; congr 1; omega
        rw [e]; omega
      · rw [show d'.length = 1 by omega]; omega
/-- the digits of a number are told by what is behind them -/
theorem digits_cut : ∀ (a b x y : List UInt8), (∀ c ∈ a, isDigit c = true) → (∀ c ∈ b, isDigit c = true) → a ++ 58 :: x = b ++ 58 :: y → a = b ∧ x = y
  | [], [], x, y, _, _, h => by simp at h; exact ⟨rfl, h⟩
  | [], c :: b, x, y, _, hb, h => by
    simp at h
    have := hb c (List.mem_cons_self ..)
    rw [← h.1] at this; cases this
  | c :: a, [], x, y, ha, _, h => by
    simp at h
    have := ha c (List.mem_cons_self ..)
    rw [h.1] at this; cases this
  | c :: a, d :: b, x, y, ha, hb, h => by
    simp only [List.cons_append, List.cons.injEq] at h
    obtain ⟨h1, h2⟩ := digits_cut a b x y (fun c hc => ha c (List.mem_cons_of_mem _ hc)) (fun c hc => hb c (List.mem_cons_of_mem _ hc)) h.2
    exact ⟨by rw [h.1, h1], h2⟩
/-- a text with its length ahead -/
def oneT (t : List UInt8) : List UInt8 := decL t.length ++ 58 :: t
def textsL (l : List (List UInt8)) : List UInt8 := (l.map oneT).flatten
theorem textsL_nil : textsL [] = [] := rfl
theorem textsL_cons (t : List UInt8) (l : List (List UInt8)) : textsL (t :: l) = decL t.length ++ 58 :: (t ++ textsL l) := by
  show oneT t ++ textsL l = _
  unfold oneT
  simp
theorem textsL_app (a b : List (List UInt8)) : textsL (a ++ b) = textsL a ++ textsL b := by simp [textsL]
theorem textsL_snoc (a : List (List UInt8)) (t : List UInt8) : textsL (a ++ [t]) = textsL a ++ (decL t.length ++ 58 :: t) := by
  rw [textsL_app, textsL_cons, textsL_nil, List.append_nil]
theorem oneT_len (t : List UInt8) : t.length + 2 ≤ (oneT t).length := by
  unfold oneT
  have := decL_pos t.length
  rw [List.length_append, List.length_cons]; omega
theorem textsL_len : ∀ (l : List (List UInt8)), 2 * l.length + (l.map List.length).sum ≤ (textsL l).length
  | [] => Nat.le_refl _
  | t :: l => by
    have h := textsL_len l
    have h1 := oneT_len t
    have e : textsL (t :: l) = oneT t ++ textsL l := rfl
    rw [e, List.length_append, List.map_cons, List.sum_cons, List.length_cons]; omega
theorem textsL_first {t u r r' : List UInt8} (h : decL t.length ++ 58 :: (t ++ r) = decL u.length ++ 58 :: (u ++ r')) : t = u ∧ r = r' := by
  obtain ⟨h1, h2⟩ := digits_cut _ _ _ _ (decL_all _) (decL_all _) h
  have hl : t.length = u.length := by
    have := congrArg dval h1
    rwa [dval_decL, dval_decL] at this
  exact List.append_inj h2 hl
/-- texts ahead are the same ones -/
theorem textsL_pre : ∀ (pre l : List (List UInt8)) (r : List UInt8), textsL pre ++ r = textsL l → ∃ l', l = pre ++ l' ∧ r = textsL l'
  | [], l, r, h => ⟨l, rfl, h⟩
  | t :: pre, [], r, h => by
    rw [textsL_cons, textsL_nil] at h
    simp at h
  | t :: pre, u :: l, r, h => by
    rw [textsL_cons, textsL_cons] at h
    have h' : decL t.length ++ 58 :: (t ++ (textsL pre ++ r)) = decL u.length ++ 58 :: (u ++ textsL l) := by simpa using h
    obtain ⟨rfl, h2⟩ := textsL_first h'
    obtain ⟨l', rfl, h3⟩ := textsL_pre pre l r h2
    exact ⟨l', rfl, h3⟩
theorem textsL_inj {a b : List (List UInt8)} (h : textsL a = textsL b) : a = b := by
  obtain ⟨l', rfl, h2⟩ := textsL_pre a b [] (by rw [List.append_nil]; exact h)
  cases l' with
  | nil => simp
  | cons t l' => rw [textsL_cons] at h2; simp at h2
theorem decI_inj {n m : Int} (h : decI n = decI m) : n = m := by
  unfold decI at h
  have h45 : ∀ k : Nat, (45 : UInt8) ∉ decL k := fun k hk => by have := decL_all k 45 hk; cases this
  split at h <;> split at h
  · injection h with _ h
    have := congrArg dval h
    rw [dval_decL, dval_decL] at this
    omega
  · exact absurd (h ▸ List.mem_cons_self ..) (h45 _)
  · exact absurd (h ▸ List.mem_cons_self ..) (h45 _)
  · have := congrArg dval h
    rw [dval_decL, dval_decL] at this
    omega
/-- no nought ahead -/
theorem decL_head (n : Nat) : 1 < (decL n).length → (decL n).head? ≠ some 48 := by
  induction n using Nat.strongRecOn with
  | _ n ih =>
    intro hl
    by_cases h : n < 10
    · have e : decL n = [digit n] := by unfold decL; rw [if_pos h]
      rw [e] at hl; simp at hl
    · have e : decL n = decL (n / 10) ++ [digit n] := by rw [decL, if_neg h]
      have hp := decL_pos (n / 10)
      have hh : (decL n).head? = (decL (n / 10)).head? := by
        rw [e]
        cases hd : decL (n / 10) with
        | nil => rw [hd] at hp; simp at hp
        | cons x r => rfl
      rw [hh]
      by_cases h2 : 1 < (decL (n / 10)).length
      · exact ih (n / 10) (by omega) h2
      · intro hx
        have h10 : n / 10 < 10 := Nat.lt_of_not_le fun h10 => h2 (by
          have e2 : decL (n / 10) = decL (n / 10 / 10) ++ [digit (n / 10)] := by rw [decL, if_neg (by omega)]
          have := decL_pos (n / 10 / 10)
          rw [e2, List.length_append, List.length_singleton]; omega)
        have e3 : decL (n / 10) = [digit (n / 10)] := by unfold decL; rw [if_pos h10]
        rw [e3] at hx
        simp at hx
        have hv := digit_val (n / 10)
        rw [hx] at hv
        have : ((48 : UInt8).toNat : Int) = 48 := rfl
        omega
/-- digits up to a colon: those that were seen are its own -/
theorem scan_le {a x D : List UInt8} {p : Nat} (hD : D = a ++ 58 :: x) (hp : ∀ c ∈ D.take p, isDigit c = true) : p ≤ a.length := by
  refine Nat.le_of_not_lt fun h => ?_
  have h58 : (58 : UInt8) ∈ D.take p := by
    rw [List.mem_iff_getElem?]
    exact ⟨a.length, by rw [List.getElem?_take, if_pos h, hD]; simp⟩
  cases hp 58 h58
theorem scan_eq {a x D : List UInt8} {p : Nat} (ha : ∀ c ∈ a, isDigit c = true) (hD : D = a ++ 58 :: x) (hp : ∀ c ∈ D.take p, isDigit c = true) (hn : ∀ c, D[p]? = some c → isDigit c = false) : p = a.length := by
  have h1 := scan_le hD hp
  refine Nat.le_antisymm h1 (Nat.le_of_not_lt fun h => ?_)
  have he : D[p]? = some a[p] := by rw [hD, List.getElem?_append_left h, List.getElem?_eq_getElem h]
  have h2 := hn _ he
  rw [ha _ (List.getElem_mem h)] at h2
  cases h2
/-- what stands at the front of texts -/
theorem textsL_front {D : List UInt8} {l : List (List UInt8)} (h : D = textsL l) (h0 : D ≠ []) : ∃ t r, D = decL t.length ++ 58 :: (t ++ r) := by
  cases l with
  | nil => exact absurd h h0
  | cons t l => exact ⟨t, textsL l, by rw [h, textsL_cons]⟩
/-- what is seen of a front, and is none: at the end -/
theorem front_end {D : List UInt8} {l : List (List UInt8)} (h : D = textsL l) (h0 : D ≠ []) (hp : ∀ c ∈ D, isDigit c = true) : False := by
  obtain ⟨t, r, hD⟩ := textsL_front h h0
  have h1 := scan_le (p := D.length) hD (by rw [List.take_length]; exact hp)
  have h2 := congrArg List.length hD
  rw [List.length_append, List.length_cons] at h2
  omega
/-- too great a number -/
theorem front_great {D : List UInt8} {l : List (List UInt8)} {p : Nat} (h : D = textsL l) (h0 : D ≠ []) (hp : ∀ c ∈ D.take p, isDigit c = true) (hg : D.length < dval (D.take p)) : False := by
  obtain ⟨t, r, hD⟩ := textsL_front h h0
  have h1 := scan_le hD hp
  have h2 : D.take p = (decL t.length).take p := by rw [hD, List.take_append_of_le_length h1]
  have h3 := dval_more ((decL t.length).take p) ((decL t.length).drop p)
  rw [List.take_append_drop, dval_decL, ← h2] at h3
  have h4 := congrArg List.length hD
  rw [List.length_append, List.length_cons, List.length_append] at h4
  omega
/-- a front whose digits have ended -/
theorem front_stop {D : List UInt8} {l : List (List UInt8)} {p : Nat} {c : UInt8} (h : D = textsL l) (hc : D[p]? = some c) (hp : ∀ c ∈ D.take p, isDigit c = true) (hn : isDigit c = false) : p ≠ 0 ∧ c = 58 ∧ (1 < p → D.head? ≠ some 48) ∧ dval (D.take p) + p + 1 ≤ D.length := by
  have h0 : D ≠ [] := by intro e; rw [e] at hc; simp at hc
  obtain ⟨t, r, hD⟩ := textsL_front h h0
  have h1 : p = (decL t.length).length := scan_eq (decL_all _) hD hp (fun x hx => by rw [hc] at hx; injection hx with hx; rw [← hx]; exact hn)
  have hpos := decL_pos t.length
  have h2 : D.take p = decL t.length := by rw [hD, h1, List.take_left' rfl]
  have h4 := congrArg List.length hD
  rw [List.length_append, List.length_cons, List.length_append] at h4
  refine ⟨by omega, ?_, fun hp1 => ?_, ?_⟩
  · rw [hD, h1, List.getElem?_append_right (Nat.le_refl _), Nat.sub_self] at hc
    simp at hc
    exact hc.symm
  · have h5 := decL_head t.length (by omega)
    intro e
    apply h5
    rw [← e, hD]
    cases hd : decL t.length with
    | nil => rw [hd] at hpos; simp at hpos
    | cons x r => rfl
  · rw [h2, dval_decL]; omega
/-- a front that is one -/
theorem front_good {D : List UInt8} {p : Nat} (hc : D[p]? = some 58) (hp : ∀ c ∈ D.take p, isDigit c = true) (h0 : p ≠ 0) (hz : 1 < p → D.head? ≠ some 48) (hn : dval (D.take p) + p + 1 ≤ D.length) :
    ((D.drop (p + 1)).take (dval (D.take p))).length = dval (D.take p) ∧ D = decL ((D.drop (p + 1)).take (dval (D.take p))).length ++ 58 :: ((D.drop (p + 1)).take (dval (D.take p)) ++ D.drop (p + 1 + dval (D.take p))) := by
  have hlt : p < D.length := (List.getElem?_eq_some_iff.1 hc).1
  have hl : (D.take p).length = p := by rw [List.length_take]; omega
  have h1 : ((D.drop (p + 1)).take (dval (D.take p))).length = dval (D.take p) := by rw [List.length_take, List.length_drop]; omega
  refine ⟨h1, ?_⟩
  rw [h1]
  obtain ⟨h2, _⟩ := decL_dval p (D.take p) hl (by intro e; rw [e] at hl; exact h0 hl.symm) hp (fun hp1 => by
    rw [hl] at hp1
    have : (D.take p).head? = D.head? := by
      cases D with
      | nil => simp
      | cons x r => cases p with
        | zero => omega
        | succ p => rfl
    rw [this]; exact hz hp1)
  have h5 : (D.drop (p + 1)).take (dval (D.take p)) ++ D.drop (p + 1 + dval (D.take p)) = D.drop (p + 1) := by
    rw [← List.drop_drop (i := dval (D.take p)) (j := p + 1)]
    exact List.take_append_drop _ _
  rw [h2, h5]
  have h3 : D.drop p = 58 :: D.drop (p + 1) := by
    rw [List.drop_eq_getElem_cons hlt]
    congr 1
    have := List.getElem?_eq_getElem hlt
    rw [hc] at this
    injection this with this
    exact this.symm
  rw [← h3, List.take_append_drop]
end Go.Proofs.YtlcpehmdhnakpaaDoor
namespace Go.Proofs.YtlcpehmdhnakpaaDoor
set_option linter.unusedVariables false

/-- api.Session -/
structure Sess where
  fCookie : List UInt8
  fClient : List UInt8
  fRedirect : List UInt8
  fState : List UInt8
  fNonce : List UInt8
  fScope : List UInt8
  fChallenge : List UInt8
  fStage : Int
  fConn : List UInt8
  fUpState : List UInt8
  fUpNonce : List UInt8
  fEnds : Int
def Sess.texts (x : Sess) : List (List UInt8) := [x.fCookie, x.fClient, x.fRedirect, x.fState, x.fNonce, x.fScope, x.fChallenge, decI x.fStage, x.fConn, x.fUpState, x.fUpNonce, decI x.fEnds]
def Sess.val (x : Sess) : Value := .agg #[tv x.fCookie, tv x.fClient, tv x.fRedirect, tv x.fState, tv x.fNonce, tv x.fScope, tv x.fChallenge, .int .i64 x.fStage, tv x.fConn, tv x.fUpState, tv x.fUpNonce, .int .i64 x.fEnds]
def Sess.ok (x : Sess) : Prop := (-9223372036854775808 ≤ x.fStage ∧ x.fStage ≤ 9223372036854775807) ∧ (-9223372036854775808 ≤ x.fEnds ∧ x.fEnds ≤ 9223372036854775807)
theorem Sess.inj {x y : Sess} (h : textsL x.texts = textsL y.texts) : x = y := by
  obtain ⟨a0, a1, a2, a3, a4, a5, a6, a7, a8, a9, a10, a11⟩ := x
  obtain ⟨b0, b1, b2, b3, b4, b5, b6, b7, b8, b9, b10, b11⟩ := y
  have h := textsL_inj h
  simp only [Sess.texts, List.cons.injEq, and_true] at h
  obtain ⟨h0, h1, h2, h3, h4, h5, h6, h7, h8, h9, h10, h11⟩ := h
  have h7 := decI_inj h7
  have h11 := decI_inj h11
  rw [h0, h1, h2, h3, h4, h5, h6, h7, h8, h9, h10, h11]
/-- api.Code -/
structure Cod where
  fCode : List UInt8
  fClient : List UInt8
  fRedirect : List UInt8
  fChallenge : List UInt8
  fNonce : List UInt8
  fScope : List UInt8
  fUser : List UInt8
  fConn : List UInt8
  fSub : List UInt8
  fClaims : List UInt8
  fRefresh : List UInt8
  fEnds : Int
  fFamily : List UInt8
def Cod.texts (x : Cod) : List (List UInt8) := [x.fCode, x.fClient, x.fRedirect, x.fChallenge, x.fNonce, x.fScope, x.fUser, x.fConn, x.fSub, x.fClaims, x.fRefresh, decI x.fEnds, x.fFamily]
def Cod.val (x : Cod) : Value := .agg #[tv x.fCode, tv x.fClient, tv x.fRedirect, tv x.fChallenge, tv x.fNonce, tv x.fScope, tv x.fUser, tv x.fConn, tv x.fSub, tv x.fClaims, tv x.fRefresh, .int .i64 x.fEnds, tv x.fFamily]
def Cod.ok (x : Cod) : Prop := (-9223372036854775808 ≤ x.fEnds ∧ x.fEnds ≤ 9223372036854775807)
theorem Cod.inj {x y : Cod} (h : textsL x.texts = textsL y.texts) : x = y := by
  obtain ⟨a0, a1, a2, a3, a4, a5, a6, a7, a8, a9, a10, a11, a12⟩ := x
  obtain ⟨b0, b1, b2, b3, b4, b5, b6, b7, b8, b9, b10, b11, b12⟩ := y
  have h := textsL_inj h
  simp only [Cod.texts, List.cons.injEq, and_true] at h
  obtain ⟨h0, h1, h2, h3, h4, h5, h6, h7, h8, h9, h10, h11, h12⟩ := h
  have h11 := decI_inj h11
  rw [h0, h1, h2, h3, h4, h5, h6, h7, h8, h9, h10, h11, h12]
/-- api.Family -/
structure Fam where
  fID : List UInt8
  fClient : List UInt8
  fUser : List UInt8
  fConn : List UInt8
  fSub : List UInt8
  fNonce : List UInt8
  fScope : List UInt8
  fClaims : List UInt8
  fRefresh : List UInt8
  fUp : List UInt8
  fOld : List (List UInt8)
  fRevoked : Bool
def Fam.texts (x : Fam) : List (List UInt8) := [x.fID, x.fClient, x.fUser, x.fConn, x.fSub, x.fNonce, x.fScope, x.fClaims, x.fRefresh, x.fUp, if x.fRevoked = true then [49] else [48]] ++ x.fOld
def Fam.val (x : Fam) (v : Value) : Value := .agg #[tv x.fID, tv x.fClient, tv x.fUser, tv x.fConn, tv x.fSub, tv x.fNonce, tv x.fScope, tv x.fClaims, tv x.fRefresh, tv x.fUp, v, .bool x.fRevoked]
theorem Fam.inj {x y : Fam} (h : textsL x.texts = textsL y.texts) : x = y := by
  obtain ⟨a0, a1, a2, a3, a4, a5, a6, a7, a8, a9, a10, a11⟩ := x
  obtain ⟨b0, b1, b2, b3, b4, b5, b6, b7, b8, b9, b10, b11⟩ := y
  have h := textsL_inj h
  simp only [Fam.texts, List.cons_append, List.nil_append, List.cons.injEq] at h
  obtain ⟨h0, h1, h2, h3, h4, h5, h6, h7, h8, h9, hr, ho⟩ := h
  have hr2 : a11 = b11 := by
    cases a11 <;> cases b11 <;> simp at hr <;> rfl
  rw [h0, h1, h2, h3, h4, h5, h6, h7, h8, h9, hr2, ho]
end Go.Proofs.YtlcpehmdhnakpaaDoor
namespace Go.Proofs.YtlcpehmdhnakpaaDoor
open Go.ChangeShapes Go.WideShapes Go.ChangeAt Go.RowKit
set_option linter.unusedVariables false

theorem decI_size13 (n : Int) (h : -9223372036854775808 ≤ n ∧ n ≤ 9223372036854775807) : (decI n).length ≤ 21 := by
  have := decL_len n.natAbs 20 (Nat.lt_of_le_of_lt (show n.natAbs ≤ 9223372036854775808 by omega) (by decide)) (by decide)
  unfold decI; split
  · rw [List.length_cons]; omega
  · omega
theorem Tryd.cellsStrR : Tryd.prog.cellsOf 9 = 1 := by kernel_rfl
theorem Tryd.bytesStrR : Tryd.prog.bytesOf 9 = 16 := by kernel_rfl
theorem Tryd.cellsStrsR : Tryd.prog.cellsOf 41 = 1 := by kernel_rfl
theorem weightsAll_inR {H : Type} {P : Program} {e : TypeId} : ∀ {l : List (DataW H)} {d : DataW H}, d ∈ l → ∀ n ∈ d.weights P e, n ∈ DataW.weightsAll P e l
  | d0 :: l, d, hd, n, hn => by
    simp only [DataW.weightsAll, List.mem_append]
    rcases List.mem_cons.1 hd with rfl | h
    · exact Or.inl hn
    · exact Or.inr (weightsAll_inR h n hn)
theorem bulkAll_nilR {H : Type} : Rows.uptoBulkAll ([] : List (DataW H)) = 0 := by unfold Rows.uptoBulkAll; rfl
theorem bulkAll_consR {H : Type} (d : DataW H) (l : List (DataW H)) : Rows.uptoBulkAll (d :: l) = Rows.uptoBulk d + Rows.uptoBulkAll l := by conv => lhs; unfold Rows.uptoBulkAll
theorem bulk_strR {H : Type} (b : List UInt8) : Rows.uptoBulk (.lit (.string b) : DataW H) = b.length + 1 := by unfold Rows.uptoBulk; rfl
theorem bulk_sliceR {H : Type} (e sp : List (DataW H)) : Rows.uptoBulk (.slice e sp) = Rows.uptoBulkAll e + Rows.uptoBulkAll sp + 1 := by conv => lhs; unfold Rows.uptoBulk
theorem bulk_aggR {H : Type} (e : List (DataW H)) : Rows.uptoBulk (.agg e) = Rows.uptoBulkAll e + 1 := by conv => lhs; unfold Rows.uptoBulk
theorem bulk_mapR {H : Type} (D : Nat → DataW H) (f : Nat → List UInt8) : ∀ (r : List Nat), (∀ i ∈ r, D i = .lit (.string (f i))) → Rows.uptoBulkAll (r.map D) = ((r.map f).map List.length).sum + r.length
  | [], _ => by simp [bulkAll_nilR]
  | i :: r, h => by
    rw [List.map_cons, List.map_cons, List.map_cons, bulkAll_consR, bulk_mapR D f r (fun j hj => h j (List.mem_cons_of_mem _ hj)), h i (List.mem_cons_self ..), bulk_strR, List.sum_cons, List.length_cons]
    omega
/-- what is known of a slice of texts that lies in memory -/
def Strs13 (W : World) (v : Value) (l : List (List UInt8)) : Prop := RdT W v l ∧ l.length ≤ 200000000000000 ∧ ∀ x ∈ l, x.length ≤ 200000000000000
set_option maxRecDepth 100000 in
/-- a cell that is a slice of texts -/
theorem strs_of_trodW {H : Type} {enc : TypeId × Value → H} {W : World} {fuel : Nat} {cs : List Value} {x : DataW H × List MemPlace}
    (h : DataW.trod enc Tryd.prog W 0 (fun _ => true) true fuel 41 cs = some x) (hwt : ∀ n ∈ x.1.weights Tryd.prog 41, n ≤ reachBytes) :
    ∃ (v : Value) (l : List (List UInt8)), cs = [v] ∧ Strs13 W v l ∧ (l.map List.length).sum + l.length ≤ Rows.uptoBulk x.1 ∧ l.length * 16 ≤ reachBytes := by
  have hreach : reachBytes ≤ 200000000000000 := by decide
  rcases Go.Deep.open_slice1 Tryd.underlying41 Tryd.cellsStrR h with ⟨rfl, rfl⟩ | ⟨a, len, cap, m, n, V, D, Pl, rfl, _, hl, hm, hmm, rfl, hi⟩
  · exact ⟨_, [], rfl, ⟨⟨none, 0, rfl, Nat.le_refl _, fun k l hk => by simp only [List.getElem?_nil] at hk; cases hk⟩, Nat.zero_le _, fun x hx => by cases hx⟩, Nat.zero_le _, Nat.zero_le _⟩
  · simp only [if_true] at hmm
    subst hmm
    have hsp : 0 < m → a = ⟨a.block, a.off, none⟩ ∧ a.block < W.heap.size := by
      intro h0
      obtain ⟨he, hg⟩ := spot_none_b (hi 0 h0).1
      obtain ⟨b, o, sp⟩ := a
      simp only [Addr.add] at he hg
      injection he with e1 e2 e3
      simp only at e3 ⊢
      exact ⟨by rw [e3], hg⟩
    have hall : ∀ i, ∃ (x : List UInt8), i < m → W.cell? ⟨a.block, a.off + i, none⟩ = some (tv x) ∧ D i = .lit (.string x) := by
      intro i
      by_cases him : i < m
      · obtain ⟨h1, h2⟩ := hi i him
        obtain ⟨s, hc, hd, _⟩ := DataW.trod_string Tryd.underlying9 h2
        rw [List.singleton_inj] at hc
        obtain ⟨e1, e2⟩ := hsp (by omega)
        rw [e1, Addr.add_lit, hc] at h1
        exact ⟨s.data.toList, fun _ => ⟨by rw [h1]; simp [tv], congrArg Prod.fst hd⟩⟩
      · exact ⟨[], fun h => absurd h him⟩
    obtain ⟨f, hf⟩ := Classical.axiomOfChoice hall
    have hlen16 : len * 16 ≤ reachBytes := by
      have := hwt ((len + (m - len)) * Tryd.prog.bytesOf 9) (by simp [DataW.weights, Tryd.underlying41])
      rw [Tryd.bytesStrR] at this
      omega
    have hlen : len ≤ reachBytes := by omega
    refine ⟨_, (List.range len).map f, rfl, ⟨⟨some a, m, by simp, by simpa using hl, fun k x hk => ?_⟩, by simp only [List.length_map, List.length_range]; omega, fun x hx' => ?_⟩, ?_, by simp only [List.length_map, List.length_range]; exact hlen16⟩
    · obtain ⟨hk1, rfl⟩ := List.getElem?_eq_some_iff.1 hk
      have hk' : k < len := by simpa using hk1
      obtain ⟨e1, e2⟩ := hsp (by omega)
      simp only [List.getElem_map, List.getElem_range]
      exact ⟨a.block, a.off, by rw [← e1], e2, (hf k (by omega)).1⟩
    · obtain ⟨i, hi', rfl⟩ := List.mem_map.1 hx'
      have hil : i < len := by simpa using hi'
      have hD := (hf i (by omega)).2
      have hin : D i ∈ (List.range len).map D := List.mem_map.2 ⟨i, by simpa using hil, rfl⟩
      have hmem : ∀ n ∈ (D i).weights Tryd.prog 9, n ≤ reachBytes := fun n hn => hwt n (by
        simp only [DataW.weights, Tryd.underlying41, List.mem_cons, List.mem_append]
        exact .inr (.inl (weightsAll_inR hin n hn)))
      rw [hD] at hmem
      exact Nat.le_trans (hmem _ (by simp [DataW.weights])) hreach
    · have hb := bulk_mapR D f (List.range len) (fun i hi' => (hf i (by have := List.mem_range.1 hi'; omega)).2)
      simp only [bulk_sliceR, List.length_map, List.length_range] at hb ⊢
      omega
theorem strs_of_trod {H : Type} {enc : TypeId × Value → H} {W : World} {fuel : Nat} {cs : List Value} {x : DataW H × List MemPlace}
    (h : DataW.trod enc Tryd.prog W 0 (fun _ => true) true fuel 41 cs = some x) (hwt : ∀ n ∈ x.1.weights Tryd.prog 41, n ≤ reachBytes) :
    ∃ (v : Value) (l : List (List UInt8)), cs = [v] ∧ Strs13 W v l ∧ (l.map List.length).sum + l.length ≤ Rows.uptoBulk x.1 := by
  obtain ⟨v, l, h1, h2, h3, _⟩ := strs_of_trodW h hwt
  exact ⟨v, l, h1, h2, h3⟩
set_option maxRecDepth 100000 in
/-- what is read of a slice of texts -/
theorem open_strs {H : Type} {enc : TypeId × Value → H} {W : World} {base : Nat} {v : Value} {d : DataW H} {ps : List MemPlace} (hval : Value.okWide Tryd.prog W .any base 41 v)
    (hd : DataW.Trod enc Tryd.prog W 0 (fun _ => true) true 41 v d ps) (hlt : ∀ x ∈ ps, x.block < W.heap.size) (hwt : ∀ n ∈ d.weights Tryd.prog 41, n ≤ reachBytes) :
    ∃ (A : Option Addr) (c : Nat) (l : List (List UInt8)), v = .slice A l.length c ∧ Strs13 W (.slice A l.length c) l := by
  obtain ⟨a0, len, cap, rfl⟩ := okWide_slice Tryd.underlying41 hval
  obtain ⟨fuel, hf⟩ := hd
  obtain ⟨v, l, hc, h, _⟩ := strs_of_trod hf hwt
  simp only [Value.cells] at hc
  have hc : Value.slice a0 len cap = v := by simpa using hc
  subst hc
  obtain ⟨A, c, e, h1⟩ := id h.1
  rw [e] at h ⊢
  exact ⟨A, c, l, rfl, h⟩
end Go.Proofs.YtlcpehmdhnakpaaDoor
