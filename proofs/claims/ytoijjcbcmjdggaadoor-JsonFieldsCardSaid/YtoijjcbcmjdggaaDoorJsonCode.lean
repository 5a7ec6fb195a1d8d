/- JSON: the code's reader as a function of lists: it reads just the good values' texts. -/
import Derived.Test.YtoijjcbcmjdggaaDoorJsonGood
import Derived.Test.YtoijjcbcmjdggaaDoorJsonItems
import Derived.Test.YtoijjcbcmjdggaaDoorJsonCQuote
import Derived.Lib.ParseIntB
namespace Go.Proofs.YtoijjcbcmjdggaaDoor

/-! ## numbers -/
def numC (c : UInt8) : Bool := c == 45 || isDigit c
/-- what stands ahead that a number may hold -/
def numL (s : List UInt8) : List UInt8 := s.takeWhile numC
def numberC (s : List UInt8) : Option (Int × List UInt8) :=
  match Lib.parseIntB 64 (numL s) with
  | .ok n => if decI n = numL s then some (n, s.drop (numL s).length) else none
  | _ => none
def noNum : List UInt8 → Bool
  | [] => true
  | c :: _ => !numC c
theorem numL_app (s : List UInt8) : numL s ++ s.drop (numL s).length = s := by
  unfold numL
  induction s with
  | nil => rfl
  | cons c r ih =>
    rw [List.takeWhile_cons]
    by_cases h : numC c = true
    · rw [if_pos h]; simp [ih]
    · rw [if_neg h]; simp
theorem numberC_only {s r : List UInt8} {n : Int} (h : numberC s = some (n, r)) : s = decI n ++ r := by
  unfold numberC at h
  split at h
  · split at h
    · rename_i e
      injection h with h; injection h with h1 h2
      subst h1
      rw [e, ← h2, numL_app]
    · cases h
  · cases h
theorem decL_all (n : Nat) : ∀ c ∈ decL n, isDigit c = true := by
  induction n using Nat.strongRecOn with
  | _ n ih =>
    intro c hc
    unfold decL at hc
    split at hc
    · rw [List.mem_singleton] at hc; subst hc; exact digit_is n
    · rename_i h
      rcases List.mem_append.1 hc with hc | hc
      · exact ih (n / 10) (by omega) c hc
      · rw [List.mem_singleton] at hc; subst hc; exact digit_is n
theorem takeWhile_all {p : UInt8 → Bool} : ∀ (a r : List UInt8), (∀ c ∈ a, p c = true) → (match r with | [] => true | c :: _ => !p c) = true → (a ++ r).takeWhile p = a
  | [], [], _, _ => rfl
  | [], c :: r, _, h => by
    show (c :: r).takeWhile p = []
    rw [List.takeWhile_cons, if_neg (by simpa using h)]
  | c :: a, r, ha, h => by
    show (c :: (a ++ r)).takeWhile p = c :: a
    rw [List.takeWhile_cons, if_pos (ha c (by simp)), takeWhile_all a r (fun c hc => ha c (by simp [hc])) h]
theorem numL_dec (n : Int) (r : List UInt8) (h : noNum r = true) : numL (decI n ++ r) = decI n := by
  refine takeWhile_all _ _ (fun c hc => ?_) (by cases r with | nil => rfl | cons c r => exact h)
  have hd : isDigit c = true ∨ c = 45 := by
    unfold decI at hc
    split at hc
    · rcases List.mem_cons.1 hc with rfl | hc
      · exact .inr rfl
      · exact .inl (decL_all _ c hc)
    · exact .inl (decL_all _ c hc)
  unfold numC
  rcases hd with h | h
  · rw [h]; simp
  · subst h; rfl
theorem digit_nat (n : Nat) : (digit n).toNat = 48 + n % 10 := by
  unfold digit; rw [UInt8.toNat_ofNat']; omega
theorem parseU_dec (n : Nat) : ∀ (r : List UInt8) (acc : Nat), acc * 10 ^ (decL n).length + n ≤ 9007199254740992 → Lib.parseUintM 18446744073709551615 acc (decL n ++ r) = Lib.parseUintM 18446744073709551615 (acc * 10 ^ (decL n).length + n) r := by
  induction n using Nat.strongRecOn with
  | _ n ih =>
    intro r acc hb
    have step : ∀ (m a : Nat) (r : List UInt8), a * 10 + m % 10 ≤ 9007199254740992 → Lib.parseUintM 18446744073709551615 a (digit m :: r) = Lib.parseUintM 18446744073709551615 (a * 10 + m % 10) r := by
      intro m a r h
      have hd := digit_nat m
      conv => lhs; unfold Lib.parseUintM
      rw [hd]
      rw [if_pos (by omega), if_neg (by omega), if_neg (by omega)]
      congr 1; omega
    by_cases h : n < 10
    · have e : decL n = [digit n] := by unfold decL; rw [if_pos h]
      rw [e] at hb ⊢
      simp only [List.length_singleton, Nat.pow_one] at hb ⊢
      show Lib.parseUintM _ acc (digit n :: r) = _
      rw [step n acc r (by omega), Nat.mod_eq_of_lt h]
    · have e : decL n = decL (n / 10) ++ [digit n] := by rw [decL, if_neg h]
      have hp : acc * 10 ^ (decL n).length + n = (acc * 10 ^ (decL (n / 10)).length + n / 10) * 10 + n % 10 := by
        rw [e, List.length_append, List.length_singleton, Nat.pow_succ, ← Nat.mul_assoc, Nat.add_mul]
        omega
      rw [hp] at hb ⊢
      rw [e, List.append_assoc, ih (n / 10) (by omega) _ acc (by omega)]
      exact step n _ r hb
theorem parseI_dec (n : Int) (hn : -9007199254740992 ≤ n ∧ n ≤ 9007199254740992) : Lib.parseIntB 64 (decI n) = .ok n := by
  have hu : Lib.parseUintB 64 (decL n.natAbs) = .ok n.natAbs := by
    have h := parseU_dec n.natAbs [] 0 (by omega)
    unfold Lib.parseUintB
    rw [if_neg (by intro e; have := decL_pos n.natAbs; rw [e] at this; simp at this)]
    simp only [List.append_nil, Nat.zero_mul, Nat.zero_add] at h
    exact h
  obtain ⟨c, r, e, hc⟩ := decL_first n.natAbs
  unfold decI
  by_cases h : n < 0
  · rw [if_pos h]
    unfold Lib.parseIntB
    simp only
    rw [if_pos (by decide), hu]
    simp only
    rw [if_neg (by simp), if_neg (by omega), if_pos (show (45 : UInt8).toNat = 45 from rfl)]
    congr 1; omega
  · rw [if_neg h]
    rw [e] at hu ⊢
    unfold Lib.parseIntB
    simp only
    have hcd : 48 ≤ c.toNat ∧ c.toNat ≤ 57 := by unfold isDigit at hc; simpa using hc
    rw [if_neg (by omega), hu]
    simp only
    rw [if_neg (by omega), if_neg (by omega), if_neg (by omega)]
    congr 1; omega
theorem parseI_in {l : List UInt8} {v : Int} (h : Lib.parseIntB 64 l = .ok v) : -9223372036854775808 ≤ v ∧ v ≤ 9223372036854775807 := by
  unfold Lib.parseIntB at h
  split at h
  · cases h
  · simp only at h
    split at h
    · cases h
    · cases h
    · split at h
      · cases h
      · split at h
        · cases h
        · rename_i h1 h2
          injection h with h
          have e : (2 : Nat) ^ (64 - 1) = 9223372036854775808 := by decide
          rw [e] at h1 h2
          subst h
          split
          · rename_i hn; constructor
            · have : ¬ (9223372036854775808 < _) := fun hh => h2 ⟨hn, hh⟩
              omega
            · omega
          · rename_i hn; constructor
            · omega
            · have : ¬ (9223372036854775808 ≤ _) := fun hh => h1 ⟨hn, hh⟩
              omega
theorem numberC_back (n : Int) (hn : -9007199254740992 ≤ n ∧ n ≤ 9007199254740992) (r : List UInt8) (hr : noNum r = true) : numberC (decI n ++ r) = some (n, r) := by
  unfold numberC
  rw [numL_dec n r hr, parseI_dec n hn]
  simp

/-! ## texts -/
/-- a small hexadecimal digit's number; -1: none -/
def hexC (c : UInt8) : Int := if 48 ≤ c.toNat ∧ c.toNat ≤ 57 then c.toNat - 48 else if 97 ≤ c.toNat ∧ c.toNat ≤ 102 then c.toNat - 87 else -1
theorem hexC_all : ∀ n : Fin 256, 0 ≤ hexC (UInt8.ofNat n.val) → hexl (hexC (UInt8.ofNat n.val)).toNat = UInt8.ofNat n.val ∧ (hexC (UInt8.ofNat n.val)).toNat < 16 := by decide +kernel
theorem hexC_is (c : UInt8) (h : 0 ≤ hexC c) : hexl (hexC c).toNat = c ∧ (hexC c).toNat < 16 := by
  have hh := hexC_all ⟨c.toNat, c.toNat_lt⟩
  simp only [UInt8.ofNat_toNat] at hh
  exact hh h
theorem hexC_hexl (n : Nat) (h : n < 16) : hexC (hexl n) = n := by
  have : ∀ n : Fin 16, hexC (hexl n.val) = (n.val : Int) := by decide +kernel
  exact this ⟨n, h⟩
/-- behind a text's first sign: the text, and what is behind its end -/
def quotC : List UInt8 → List UInt8 → Option (List UInt8 × List UInt8)
  | [], _ => none
  | c :: r, acc =>
    if c = 34 then some (acc, r)
    else if c = 92 then
      match r with
      | e :: r' =>
        if e = 34 ∨ e = 92 then quotC r' (acc ++ [e])
        else match r' with
          | x :: y :: h :: l :: r'' => if e = 117 ∧ x = 48 ∧ y = 48 ∧ (h = 48 ∨ h = 49) ∧ 0 ≤ hexC l then quotC r'' (acc ++ [UInt8.ofNat (16 * (h.toNat - 48) + (hexC l).toNat)]) else none
          | _ => none
      | [] => none
    else if c.toNat < 32 then none else quotC r (acc ++ [c])
theorem quotC_back (t r : List UInt8) : ∀ acc : List UInt8, quotC (quoteT t ++ r) acc = some (acc ++ t, r) := by
  induction t with
  | nil => intro acc; rw [quoteT]; unfold quotC; simp
  | cons c t ih =>
    intro acc
    rw [quoteT]
    by_cases h : c = 34 ∨ c = 92
    · rw [quoteC, if_pos h, List.append_assoc]
      show quotC (92 :: c :: (quoteT t ++ r)) acc = _
      unfold quotC
      rw [if_neg (by decide), if_pos rfl]
      simp only [h, if_true]
      rw [ih]; simp
    · by_cases h2 : c.toNat < 32
      · rw [quoteC, if_neg h, if_pos h2, List.append_assoc]
        show quotC (92 :: 117 :: 48 :: 48 :: UInt8.ofNat (48 + c.toNat / 16) :: hexl (c.toNat % 16) :: (quoteT t ++ r)) acc = _
        have e2 := hexC_hexl (c.toNat % 16) (by omega)
        have hh : (UInt8.ofNat (48 + c.toNat / 16)).toNat = 48 + c.toNat / 16 := by rw [UInt8.toNat_ofNat']; omega
        have h01 : UInt8.ofNat (48 + c.toNat / 16) = 48 ∨ UInt8.ofNat (48 + c.toNat / 16) = 49 := by
          have : c.toNat / 16 = 0 ∨ c.toNat / 16 = 1 := by omega
          rcases this with h | h
          · rw [h]; exact .inl rfl
          · rw [h]; exact .inr rfl
        have e3 : UInt8.ofNat (16 * ((UInt8.ofNat (48 + c.toNat / 16)).toNat - 48) + (hexC (hexl (c.toNat % 16))).toNat) = c := by
          rw [e2, hh]
          have : 16 * (48 + c.toNat / 16 - 48) + ((c.toNat % 16 : Nat) : Int).toNat = c.toNat := by omega
          rw [this]; exact UInt8.ofNat_toNat
        unfold quotC
        rw [if_neg (by decide), if_pos rfl]
        dsimp only
        rw [if_neg (by decide), if_pos ⟨rfl, rfl, rfl, h01, by rw [e2]; omega⟩, e3, ih]
        simp
      · have h3 : c ≠ 34 := fun e => h (Or.inl e)
        have h4 : c ≠ 92 := fun e => h (Or.inr e)
        rw [quoteC, if_neg h, if_neg h2, List.append_assoc]
        show quotC (c :: (quoteT t ++ r)) acc = _
        unfold quotC
        rw [if_neg h3, if_neg h4, if_neg h2, ih]; simp
theorem quotC_only (m : Nat) : ∀ (s acc t r : List UInt8), s.length ≤ m → quotC s acc = some (t, r) → ∃ t', t = acc ++ t' ∧ s = quoteT t' ++ r := by
  induction m with
  | zero =>
    intro s acc t r hm h
    obtain rfl : s = [] := List.length_eq_zero_iff.1 (by omega)
    unfold quotC at h; cases h
  | succ m ih =>
    intro s acc t r hm h
    cases s with
    | nil => unfold quotC at h; cases h
    | cons c s =>
      have hm' : s.length ≤ m := by simpa using hm
      unfold quotC at h
      by_cases h34 : c = 34
      · rw [if_pos h34] at h
        injection h with h; injection h with h1 h2
        subst h1; subst h2; subst h34
        exact ⟨[], by simp, rfl⟩
      · rw [if_neg h34] at h
        by_cases h92 : c = 92
        · rw [if_pos h92] at h
          subst h92
          cases s with
          | nil => cases h
          | cons e s =>
            simp only at h
            by_cases he : e = 34 ∨ e = 92
            · rw [if_pos he] at h
              obtain ⟨t', e1, e2⟩ := ih s _ t r (by simp at hm'; omega) h
              refine ⟨e :: t', by rw [e1]; simp, ?_⟩
              rw [quoteT, quoteC, if_pos he, e2]; simp
            · rw [if_neg he] at h
              rcases s with _ | ⟨x, _ | ⟨y, _ | ⟨hh, _ | ⟨l, s⟩⟩⟩⟩
              · cases h
              · cases h
              · cases h
              · cases h
              · simp only at h
                by_cases hc : e = 117 ∧ x = 48 ∧ y = 48 ∧ (hh = 48 ∨ hh = 49) ∧ 0 ≤ hexC l
                · rw [if_pos hc] at h
                  obtain ⟨rfl, rfl, rfl, h01, hl⟩ := hc
                  obtain ⟨t', e1, e2⟩ := ih s _ t r (by simp at hm'; omega) h
                  obtain ⟨hx1, hx2⟩ := hexC_is l hl
                  refine ⟨UInt8.ofNat (16 * (hh.toNat - 48) + (hexC l).toNat) :: t', by rw [e1]; simp, ?_⟩
                  have hhn : hh.toNat = 48 ∨ hh.toNat = 49 := by rcases h01 with rfl | rfl; exact .inl rfl; exact .inr rfl
                  have hbn : (UInt8.ofNat (16 * (hh.toNat - 48) + (hexC l).toNat)).toNat = 16 * (hh.toNat - 48) + (hexC l).toNat := by rw [UInt8.toNat_ofNat']; omega
                  have hq : quoteC (UInt8.ofNat (16 * (hh.toNat - 48) + (hexC l).toNat)) = [92, 117, 48, 48, hh, l] := by
                    obtain ⟨b, hb⟩ : ∃ b, b = UInt8.ofNat (16 * (hh.toNat - 48) + (hexC l).toNat) := ⟨_, rfl⟩
                    rw [← hb] at hbn ⊢
                    unfold quoteC
                    rw [if_neg (by
                      rintro (e | e)
                      · rw [e] at hbn; have : (34 : UInt8).toNat = 34 := rfl; omega
                      · rw [e] at hbn; have : (92 : UInt8).toNat = 92 := rfl; omega), if_pos (by omega)]
                    have d1 : UInt8.ofNat (48 + b.toNat / 16) = hh := by
                      have : 48 + b.toNat / 16 = hh.toNat := by omega
                      rw [this]; exact UInt8.ofNat_toNat
                    have d2 : hexl (b.toNat % 16) = l := by
                      have : b.toNat % 16 = (hexC l).toNat := by omega
                      rw [this]; exact hx1
                    rw [d1, d2]
                  rw [quoteT, hq, e2]; simp
                · rw [if_neg hc] at h; cases h
        · rw [if_neg h92] at h
          by_cases h32 : c.toNat < 32
          · rw [if_pos h32] at h; cases h
          · rw [if_neg h32] at h
            obtain ⟨t', e1, e2⟩ := ih s _ t r hm' h
            refine ⟨c :: t', by rw [e1]; simp, ?_⟩
            rw [quoteT, quoteC, if_neg (fun h => h.elim h34 h92), if_neg h32, e2]; simp
/-- a text between " at the front, and what is behind it -/
def quotedC (s : List UInt8) : Option (List UInt8 × List UInt8) := if beginsB s [34] then quotC (s.drop 1) [] else none
theorem begins_one {s : List UInt8} {c : UInt8} (h : beginsB s [c] = true) : s = c :: s.drop 1 := by
  cases s with
  | nil => simp [beginsB] at h
  | cons d r =>
    rw [begins_cons] at h
    have : d = c := by simpa using h
    subst this; rfl
theorem quotedC_back (t r : List UInt8) : quotedC (quoteJ t ++ r) = some (t, r) := by
  unfold quotedC quoteJ
  show (if beginsB (34 :: (quoteT t ++ r)) [34] then quotC (quoteT t ++ r) [] else none) = _
  rw [b_same, if_pos rfl, quotC_back]; rfl
theorem quotedC_only {s t r : List UInt8} (h : quotedC s = some (t, r)) : s = quoteJ t ++ r := by
  unfold quotedC at h
  split at h
  · rename_i hb
    have e := begins_one hb
    obtain ⟨t', e1, e2⟩ := quotC_only _ _ [] t r (Nat.le_refl _) h
    rw [e, e2]
    have : t' = t := by simpa using e1.symm
    rw [this]; rfl
  · cases h
end Go.Proofs.YtoijjcbcmjdggaaDoor
