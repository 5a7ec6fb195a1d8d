/- Texts merged by program, in build order: JsonCode, JsonCodeV, JsonEsc, JsonQuoted. -/
import Derived.Test.YthbbeojhipcjiaaDoorJso02
import Derived.Test.YthbbeojhipcjiaaDoorJso03
import Derived.Lib.ParseIntB
import Derived.Deep.RegionWith
import Derived.Deep.QuietTactic
import Derived.WalkMore
namespace Go.Proofs.YthbbeojhipcjiaaDoor

/-! ## numbers -/
def numC (c : UInt8) : Bool := c == 45 || isDigit c
/-- what stands ahead that a number may hold -/
def numL (s : List UInt8) : List UInt8 := s.takeWhile numC
def numberC (s : List UInt8) : Option (Int × List UInt8) :=
  match Lib.parseIntB 64 (numL s) with
  | .ok n => if decI n = numL s then some (n, s.drop (numL s).length) else none
  | _ => none
def noNum : List UInt8 → Bool
  | [] => true
  | c :: _ => !numC c
theorem numL_app (s : List UInt8) : numL s ++ s.drop (numL s).length = s := by
  unfold numL
  induction s with
  | nil => rfl
  | cons c r ih =>
    rw [List.takeWhile_cons]
    by_cases h : numC c = true
    · rw [if_pos h]; simp [ih]
    · rw [if_neg h]; simp
theorem numberC_only {s r : List UInt8} {n : Int} (h : numberC s = some (n, r)) : s = decI n ++ r := by
  unfold numberC at h
  split at h
  · split at h
    · rename_i e
      injection h with h; injection h with h1 h2
      subst h1
      rw [e, ← h2, numL_app]
    · cases h
  · cases h
theorem decL_all (n : Nat) : ∀ c ∈ decL n, isDigit c = true := by
  induction n using Nat.strongRecOn with
  | _ n ih =>
    intro c hc
    unfold decL at hc
    split at hc
    · rw [List.mem_singleton] at hc; subst hc; exact digit_is n
    · rename_i h
      rcases List.mem_append.1 hc with hc | hc
      · exact ih (n / 10) (by omega) c hc
      · rw [List.mem_singleton] at hc; subst hc; exact digit_is n
theorem takeWhile_all {p : UInt8 → Bool} : ∀ (a r : List UInt8), (∀ c ∈ a, p c = true) → (match r with | [] => true | c :: _ => !p c) = true → (a ++ r).takeWhile p = a
  | [], [], _, _ => rfl
  | [], c :: r, _, h => by
    show (c :: r).takeWhile p = []
    rw [List.takeWhile_cons, if_neg (by simpa using h)]
  | c :: a, r, ha, h => by
    show (c :: (a ++ r)).takeWhile p = c :: a
    rw [List.takeWhile_cons, if_pos (ha c (by simp)), takeWhile_all a r (fun c hc => ha c (by simp [hc])) h]
theorem numL_dec (n : Int) (r : List UInt8) (h : noNum r = true) : numL (decI n ++ r) = decI n := by
  refine takeWhile_all _ _ (fun c hc => ?_) (by cases r with | nil => rfl | cons c r => exact h)
  have hd : isDigit c = true ∨ c = 45 := by
    unfold decI at hc
    split at hc
    · rcases List.mem_cons.1 hc with rfl | hc
      · exact .inr rfl
      · exact .inl (decL_all _ c hc)
    · exact .inl (decL_all _ c hc)
  unfold numC
  rcases hd with h | h
  · rw [h]; simp
  · subst h; rfl
theorem digit_nat (n : Nat) : (digit n).toNat = 48 + n % 10 := by
  unfold digit; rw [UInt8.toNat_ofNat']; omega
theorem parseU_dec (n : Nat) : ∀ (r : List UInt8) (acc : Nat), acc * 10 ^ (decL n).length + n ≤ 9007199254740992 → Lib.parseUintM 18446744073709551615 acc (decL n ++ r) = Lib.parseUintM 18446744073709551615 (acc * 10 ^ (decL n).length + n) r := by
  induction n using Nat.strongRecOn with
  | _ n ih =>
    intro r acc hb
    have step : ∀ (m a : Nat) (r : List UInt8), a * 10 + m % 10 ≤ 9007199254740992 → Lib.parseUintM 18446744073709551615 a (digit m :: r) = Lib.parseUintM 18446744073709551615 (a * 10 + m % 10) r := by
      intro m a r h
      have hd := digit_nat m
      conv => lhs; unfold Lib.parseUintM
      rw [hd]
      rw [if_pos (by omega), if_neg (by omega), if_neg (by omega)]
      congr 1; omega
    by_cases h : n < 10
    · have e : decL n = [digit n] := by unfold decL; rw [if_pos h]
      rw [e] at hb ⊢
      simp only [List.length_singleton, Nat.pow_one] at hb ⊢
      show Lib.parseUintM _ acc (digit n :: r) = _
      rw [step n acc r (by omega), Nat.mod_eq_of_lt h]
    · have e : decL n = decL (n / 10) ++ [digit n] := by rw [decL, if_neg h]
      have hp : acc * 10 ^ (decL n).length + n = (acc * 10 ^ (decL (n / 10)).length + n / 10) * 10 + n % 10 := by
        rw [e, List.length_append, List.length_singleton, Nat.pow_succ, ← Nat.mul_assoc, Nat.add_mul]
        omega
      rw [hp] at hb ⊢
      rw [e, List.append_assoc, ih (n / 10) (by omega) _ acc (by omega)]
      exact step n _ r hb
theorem parseI_dec (n : Int) (hn : -9007199254740992 ≤ n ∧ n ≤ 9007199254740992) : Lib.parseIntB 64 (decI n) = .ok n := by
  have hu : Lib.parseUintB 64 (decL n.natAbs) = .ok n.natAbs := by
    have h := parseU_dec n.natAbs [] 0 (by omega)
    unfold Lib.parseUintB
    rw [if_neg (by intro e; have := decL_pos n.natAbs; rw [e] at this; simp at this)]
    simp only [List.append_nil, Nat.zero_mul, Nat.zero_add] at h
    exact h
  obtain ⟨c, r, e, hc⟩ := decL_first n.natAbs
  unfold decI
  by_cases h : n < 0
  · rw [if_pos h]
    unfold Lib.parseIntB
    simp only
    rw [if_pos (by decide), hu]
    simp only
    rw [if_neg (by simp), if_neg (by omega), if_pos (show (45 : UInt8).toNat = 45 from rfl)]
    congr 1; omega
  · rw [if_neg h]
    rw [e] at hu ⊢
    unfold Lib.parseIntB
    simp only
    have hcd : 48 ≤ c.toNat ∧ c.toNat ≤ 57 := by unfold isDigit at hc; simpa using hc
    rw [if_neg (by omega), hu]
    simp only
    rw [if_neg (by omega), if_neg (by omega), if_neg (by omega)]
    congr 1; omega
theorem parseI_in {l : List UInt8} {v : Int} (h : Lib.parseIntB 64 l = .ok v) : -9223372036854775808 ≤ v ∧ v ≤ 9223372036854775807 := by
  unfold Lib.parseIntB at h
  split at h
  · cases h
  · simp only at h
    split at h
    · cases h
    · cases h
    · split at h
      · cases h
      · split at h
        · cases h
        · rename_i h1 h2
          injection h with h
          have e : (2 : Nat) ^ (64 - 1) = 9223372036854775808 := by decide
          rw [e] at h1 h2
          subst h
          split
          · rename_i hn; constructor
            · have : ¬ (9223372036854775808 < _) := fun hh => h2 ⟨hn, hh⟩
              omega
            · omega
          · rename_i hn; constructor
            · omega
            · have : ¬ (9223372036854775808 ≤ _) := fun hh => h1 ⟨hn, hh⟩
              omega
theorem numberC_back (n : Int) (hn : -9007199254740992 ≤ n ∧ n ≤ 9007199254740992) (r : List UInt8) (hr : noNum r = true) : numberC (decI n ++ r) = some (n, r) := by
  unfold numberC
  rw [numL_dec n r hr, parseI_dec n hn]
  simp

/-! ## texts -/
/-- a small hexadecimal digit's number; -1: none -/
def hexC (c : UInt8) : Int := if 48 ≤ c.toNat ∧ c.toNat ≤ 57 then c.toNat - 48 else if 97 ≤ c.toNat ∧ c.toNat ≤ 102 then c.toNat - 87 else -1
theorem hexC_all : ∀ n : Fin 256, 0 ≤ hexC (UInt8.ofNat n.val) → hexl (hexC (UInt8.ofNat n.val)).toNat = UInt8.ofNat n.val ∧ (hexC (UInt8.ofNat n.val)).toNat < 16 := by decide +kernel
theorem hexC_is (c : UInt8) (h : 0 ≤ hexC c) : hexl (hexC c).toNat = c ∧ (hexC c).toNat < 16 := by
  have hh := hexC_all ⟨c.toNat, c.toNat_lt⟩
  simp only [UInt8.ofNat_toNat] at hh
  exact hh h
theorem hexC_hexl (n : Nat) (h : n < 16) : hexC (hexl n) = n := by
  have : ∀ n : Fin 16, hexC (hexl n.val) = (n.val : Int) := by decide +kernel
  exact this ⟨n, h⟩
/-- behind a text's first sign: the text, and what is behind its end -/
def quotC : List UInt8 → List UInt8 → Option (List UInt8 × List UInt8)
  | [], _ => none
  | c :: r, acc =>
    if c = 34 then some (acc, r)
    else if c = 92 then
      match r with
      | e :: r' =>
        if e = 34 ∨ e = 92 then quotC r' (acc ++ [e])
        else match r' with
          | x :: y :: h :: l :: r'' => if e = 117 ∧ x = 48 ∧ y = 48 ∧ (h = 48 ∨ h = 49) ∧ 0 ≤ hexC l then quotC r'' (acc ++ [UInt8.ofNat (16 * (h.toNat - 48) + (hexC l).toNat)]) else none
          | _ => none
      | [] => none
    else if c.toNat < 32 then none else quotC r (acc ++ [c])
theorem quotC_back (t r : List UInt8) : ∀ acc : List UInt8, quotC (quoteT t ++ r) acc = some (acc ++ t, r) := by
  induction t with
  | nil => intro acc; rw [quoteT]; unfold quotC; simp
  | cons c t ih =>
    intro acc
    rw [quoteT]
    by_cases h : c = 34 ∨ c = 92
    · rw [quoteC, if_pos h, List.append_assoc]
      show quotC (92 :: c :: (quoteT t ++ r)) acc = _
      unfold quotC
      rw [if_neg (by decide), if_pos rfl]
      simp only [h, if_true]
      rw [ih]; simp
    · by_cases h2 : c.toNat < 32
      · rw [quoteC, if_neg h, if_pos h2, List.append_assoc]
        show quotC (92 :: 117 :: 48 :: 48 :: UInt8.ofNat (48 + c.toNat / 16) :: hexl (c.toNat % 16) :: (quoteT t ++ r)) acc = _
        have e2 := hexC_hexl (c.toNat % 16) (by omega)
        have hh : (UInt8.ofNat (48 + c.toNat / 16)).toNat = 48 + c.toNat / 16 := by rw [UInt8.toNat_ofNat']; omega
        have h01 : UInt8.ofNat (48 + c.toNat / 16) = 48 ∨ UInt8.ofNat (48 + c.toNat / 16) = 49 := by
          have : c.toNat / 16 = 0 ∨ c.toNat / 16 = 1 := by omega
          rcases this with h | h
          · rw [h]; exact .inl rfl
          · rw [h]; exact .inr rfl
        have e3 : UInt8.ofNat (16 * ((UInt8.ofNat (48 + c.toNat / 16)).toNat - 48) + (hexC (hexl (c.toNat % 16))).toNat) = c := by
          rw [e2, hh]
          have : 16 * (48 + c.toNat / 16 - 48) + ((c.toNat % 16 : Nat) : Int).toNat = c.toNat := by omega
          rw [this]; exact UInt8.ofNat_toNat
        unfold quotC
        rw [if_neg (by decide), if_pos rfl]
        dsimp only
        rw [if_neg (by decide), if_pos ⟨rfl, rfl, rfl, h01, by rw [e2]; omega⟩, e3, ih]
        simp
      · have h3 : c ≠ 34 := fun e => h (Or.inl e)
        have h4 : c ≠ 92 := fun e => h (Or.inr e)
        rw [quoteC, if_neg h, if_neg h2, List.append_assoc]
        show quotC (c :: (quoteT t ++ r)) acc = _
        unfold quotC
        rw [if_neg h3, if_neg h4, if_neg h2, ih]; simp
theorem quotC_only (m : Nat) : ∀ (s acc t r : List UInt8), s.length ≤ m → quotC s acc = some (t, r) → ∃ t', t = acc ++ t' ∧ s = quoteT t' ++ r := by
  induction m with
  | zero =>
    intro s acc t r hm h
    obtain rfl : s = [] := List.length_eq_zero_iff.1 (by omega)
    unfold quotC at h; cases h
  | succ m ih =>
    intro s acc t r hm h
    cases s with
    | nil => unfold quotC at h; cases h
    | cons c s =>
      have hm' : s.length ≤ m := by simpa using hm
      unfold quotC at h
      by_cases h34 : c = 34
      · rw [if_pos h34] at h
        injection h with h; injection h with h1 h2
        subst h1; subst h2; subst h34
        exact ⟨[], by simp, rfl⟩
      · rw [if_neg h34] at h
        by_cases h92 : c = 92
        · rw [if_pos h92] at h
          subst h92
          cases s with
          | nil => cases h
          | cons e s =>
            simp only at h
            by_cases he : e = 34 ∨ e = 92
            · rw [if_pos he] at h
              obtain ⟨t', e1, e2⟩ := ih s _ t r (by simp at hm'; omega) h
              refine ⟨e :: t', by rw [e1]; simp, ?_⟩
              rw [quoteT, quoteC, if_pos he, e2]; simp
            · rw [if_neg he] at h
              rcases s with _ | ⟨x, _ | ⟨y, _ | ⟨hh, _ | ⟨l, s⟩⟩⟩⟩
              · cases h
              · cases h
              · cases h
              · cases h
              · simp only at h
                by_cases hc : e = 117 ∧ x = 48 ∧ y = 48 ∧ (hh = 48 ∨ hh = 49) ∧ 0 ≤ hexC l
                · rw [if_pos hc] at h
                  obtain ⟨rfl, rfl, rfl, h01, hl⟩ := hc
                  obtain ⟨t', e1, e2⟩ := ih s _ t r (by simp at hm'; omega) h
                  obtain ⟨hx1, hx2⟩ := hexC_is l hl
                  refine ⟨UInt8.ofNat (16 * (hh.toNat - 48) + (hexC l).toNat) :: t', by rw [e1]; simp, ?_⟩
                  have hhn : hh.toNat = 48 ∨ hh.toNat = 49 := by rcases h01 with rfl | rfl; exact .inl rfl; exact .inr rfl
                  have hbn : (UInt8.ofNat (16 * (hh.toNat - 48) + (hexC l).toNat)).toNat = 16 * (hh.toNat - 48) + (hexC l).toNat := by rw [UInt8.toNat_ofNat']; omega
                  have hq : quoteC (UInt8.ofNat (16 * (hh.toNat - 48) + (hexC l).toNat)) = [92, 117, 48, 48, hh, l] := by
                    obtain ⟨b, hb⟩ : ∃ b, b = UInt8.ofNat (16 * (hh.toNat - 48) + (hexC l).toNat) := ⟨_, rfl⟩
                    rw [← hb] at hbn ⊢
                    unfold quoteC
                    rw [if_neg (by
                      rintro (e | e)
                      · rw [e] at hbn; have : (34 : UInt8).toNat = 34 := rfl; omega
                      · rw [e] at hbn; have : (92 : UInt8).toNat = 92 := rfl; omega), if_pos (by omega)]
                    have d1 : UInt8.ofNat (48 + b.toNat / 16) = hh := by
                      have : 48 + b.toNat / 16 = hh.toNat := by omega
                      rw [this]; exact UInt8.ofNat_toNat
                    have d2 : hexl (b.toNat % 16) = l := by
                      have : b.toNat % 16 = (hexC l).toNat := by omega
                      rw [this]; exact hx1
                    rw [d1, d2]
                  rw [quoteT, hq, e2]; simp
                · rw [if_neg hc] at h; cases h
        · rw [if_neg h92] at h
          by_cases h32 : c.toNat < 32
          · rw [if_pos h32] at h; cases h
          · rw [if_neg h32] at h
            obtain ⟨t', e1, e2⟩ := ih s _ t r hm' h
            refine ⟨c :: t', by rw [e1]; simp, ?_⟩
            rw [quoteT, quoteC, if_neg (fun h => h.elim h34 h92), if_neg h32, e2]; simp
/-- a text between " at the front, and what is behind it -/
def quotedC (s : List UInt8) : Option (List UInt8 × List UInt8) := if beginsB s [34] then quotC (s.drop 1) [] else none
theorem begins_one {s : List UInt8} {c : UInt8} (h : beginsB s [c] = true) : s = c :: s.drop 1 := by
  cases s with
  | nil => simp [beginsB] at h
  | cons d r =>
    rw [begins_cons] at h
    have : d = c := by simpa using h
    subst this; rfl
theorem quotedC_back (t r : List UInt8) : quotedC (quoteJ t ++ r) = some (t, r) := by
  unfold quotedC quoteJ
  show (if beginsB (34 :: (quoteT t ++ r)) [34] then quotC (quoteT t ++ r) [] else none) = _
  rw [b_same, if_pos rfl, quotC_back]; rfl
theorem quotedC_only {s t r : List UInt8} (h : quotedC s = some (t, r)) : s = quoteJ t ++ r := by
  unfold quotedC at h
  split at h
  · rename_i hb
    have e := begins_one hb
    obtain ⟨t', e1, e2⟩ := quotC_only _ _ [] t r (Nat.le_refl _) h
    rw [e, e2]
    have : t' = t := by simpa using e1.symm
    rw [this]; rfl
  · cases h
end Go.Proofs.YthbbeojhipcjiaaDoor
namespace Go.Proofs.YthbbeojhipcjiaaDoor

mutual
/-- the value at the front, and what is behind it -/
def valueC : Nat → List UInt8 → Option (V × List UInt8)
  | 0, _ => none
  | f + 1, s =>
    if beginsB s nullT then some (.mk 1 0 [] [] [], s.drop 4) else if beginsB s trueT then some (.mk 2 1 [] [] [], s.drop 4) else if beginsB s falseT then some (.mk 2 0 [] [] [], s.drop 5)
    else if beginsB s [34] then (match quotedC s with
      | some (t, r) => some (.mk 4 0 t [] [], r)
      | none => none)
    else if beginsB s [91] then (if beginsB (s.drop 1) [93] then some (.mk 5 0 [] [] [], s.drop 2) else groupC f false (s.drop 1) [] [])
    else if beginsB s [123] then (if beginsB (s.drop 1) [125] then some (.mk 6 0 [] [] [], s.drop 2) else groupC f true (s.drop 1) [] [])
    else (match numberC s with
      | some (n, r) => some (.mk 3 n [] [] [], r)
      | none => none)
/-- what a list, or an object, holds behind so many keys and values, and what is behind its end -/
def groupC : Nat → Bool → List UInt8 → List (List UInt8) → List V → Option (V × List UInt8)
  | 0, _, _, _, _ => none
  | f + 1, obj, s, ks, l =>
    match (if obj then (match quotedC s with
      | some (t, r) => if beginsB r [58] then some (ks ++ [t], r.drop 1) else none
      | none => none) else some (ks, s)) with
    | none => none
    | some (ks', s') =>
      match valueC f s' with
      | none => none
      | some (x, r) =>
        if beginsB r [44] then groupC f obj (r.drop 1) ks' (l ++ [x])
        else if beginsB r [if obj then 125 else 93] then some (.mk (if obj then 6 else 5) 0 [] (l ++ [x]) ks', r.drop 1)
        else none
end
theorem items_two (x y : V) (r : List V) : V.items (x :: y :: r) = x.show ++ (44 : UInt8) :: V.items (y :: r) := by rw [items_cons, itemsMore_cons, items_cons]
theorem pairs_two (x y : V) (r : List V) (k : List UInt8) (ks : List (List UInt8)) : V.pairs (x :: y :: r) (k :: ks) = quoteJ k ++ (58 : UInt8) :: (x.show ++ (44 : UInt8) :: V.pairs (y :: r) ks) := by
  rw [pairs_cons, pairsMore_cons, pairs_cons]; rfl
theorem begins_full {s t : List UInt8} (h : beginsB s t = true) : s = t ++ s.drop t.length := by
  unfold beginsB at h
  have : s.take t.length = t := by simpa using h
  conv => lhs; rw [← List.take_append_drop t.length s, this]
/-- what is read is a value's text -/
def OnlyV (f : Nat) : Prop := ∀ (s : List UInt8) (v : V) (r : List UInt8), valueC f s = some (v, r) → s = v.show ++ r
def OnlyG (f : Nat) : Prop := ∀ (obj : Bool) (s : List UInt8) (ks : List (List UInt8)) (l : List V) (v : V) (r : List UInt8), groupC f obj s ks l = some (v, r) →
  ∃ x l2 ks2, v = .mk (if obj then 6 else 5) 0 [] (l ++ x :: l2) (ks ++ ks2) ∧ (if obj then ks2.length = l2.length + 1 ∧ s = V.pairs (x :: l2) ks2 ++ 125 :: r else ks2 = [] ∧ s = V.items (x :: l2) ++ 93 :: r)
theorem onlyV (f : Nat) (hg : OnlyG f) : OnlyV (f + 1) := by
  intro s v r h
  unfold valueC at h
  split at h
  · rename_i hb
    injection h with h; injection h with h1 h2
    rw [← h1, ← h2, show_one]; exact begins_full hb
  · split at h
    · rename_i hb
      injection h with h; injection h with h1 h2
      rw [← h1, ← h2, show_two, if_pos rfl]; exact begins_full hb
    · split at h
      · rename_i hb
        injection h with h; injection h with h1 h2
        rw [← h1, ← h2, show_two, if_neg (by decide)]; exact begins_full hb
      · split at h
        · split at h
          · rename_i hq
            injection h with h; injection h with h1 h2
            rw [← h1, ← h2, show_four]; exact quotedC_only hq
          · cases h
        · split at h
          · rename_i hb
            have e := begins_one hb
            split at h
            · rename_i hb2
              have e2 := begins_one hb2
              injection h with h; injection h with h1 h2
              rw [← h1, ← h2, show_list, items_nil]
              rw [List.drop_drop] at e2
              conv => lhs; rw [e, e2]
              rfl
            · obtain ⟨x, l2, ks2, e1, e2⟩ := hg _ _ _ _ _ _ h
              simp only [Bool.false_eq_true, if_false] at e1 e2
              obtain ⟨rfl, e2⟩ := e2
              rw [e1, show_list]
              conv => lhs; rw [e, e2]
              simp
          · split at h
            · rename_i hb
              have e := begins_one hb
              split at h
              · rename_i hb2
                have e2 := begins_one hb2
                injection h with h; injection h with h1 h2
                rw [← h1, ← h2, show_object, pairs_nil]
                rw [List.drop_drop] at e2
                conv => lhs; rw [e, e2]
                rfl
              · obtain ⟨x, l2, ks2, e1, e2⟩ := hg _ _ _ _ _ _ h
                simp only [if_true] at e1 e2
                obtain ⟨_, e2⟩ := e2
                rw [e1, show_object]
                conv => lhs; rw [e, e2]
                simp
            · split at h
              · rename_i hn
                injection h with h; injection h with h1 h2
                rw [← h1, ← h2, show_three]; exact numberC_only hn
              · cases h
theorem onlyG (f : Nat) (hv : OnlyV f) (hg : OnlyG f) : OnlyG (f + 1) := by
  intro obj s ks l v r h
  unfold groupC at h
  cases obj with
  | false =>
    simp only [Bool.false_eq_true, if_false] at h ⊢
    split at h
    · cases h
    · rename_i x r1 hx
      have e := hv _ _ _ hx
      split at h
      · rename_i hb
        have e1 := begins_one hb
        obtain ⟨y, l2, ks2, h1, h2⟩ := hg _ _ _ _ _ _ h
        simp only [Bool.false_eq_true, if_false] at h1 h2
        obtain ⟨rfl, h2⟩ := h2
        refine ⟨x, y :: l2, [], by rw [h1]; simp, rfl, ?_⟩
        rw [items_two, e, e1, h2]; simp
      · split at h
        · rename_i hb
          have e1 := begins_one hb
          injection h with h; injection h with h1 h2
          refine ⟨x, [], [], by rw [← h1]; simp, rfl, ?_⟩
          rw [items_cons, itemsMore_nil, e, e1, ← h2]; simp
        · cases h
  | true =>
    simp only [if_true] at h ⊢
    split at h
    · cases h
    · rename_i ks' s' hk
      split at hk
      · rename_i t r0 hq
        have eq := quotedC_only hq
        split at hk
        · rename_i hb0
          have e0 := begins_one hb0
          injection hk with hk; injection hk with hk1 hk2
          subst hk1
          rw [← hk2] at h
          split at h
          · cases h
          · rename_i x r1 hx
            have e := hv _ _ _ hx
            split at h
            · rename_i hb
              have e1 := begins_one hb
              obtain ⟨y, l2, ks2, h1, h2⟩ := hg _ _ _ _ _ _ h
              simp only [if_true] at h1 h2
              obtain ⟨hl, h2⟩ := h2
              refine ⟨x, y :: l2, t :: ks2, by rw [h1]; simp, by simp [hl], ?_⟩
              rw [pairs_two, eq, e0, e, e1, h2]
              simp only [List.append_assoc, List.cons_append]
            · split at h
              · rename_i hb
                have e1 := begins_one hb
                injection h with h; injection h with h1 h2
                refine ⟨x, [], [t], by rw [← h1], rfl, ?_⟩
                have q1 : s = quoteJ t ++ 58 :: (x.show ++ 125 :: r1.drop 1) := by rw [← e1, ← e, ← e0]; exact eq
                rw [pairs_cons, pairsMore_nil, q1, ← h2]; simp
              · cases h
        · cases hk
      · cases hk
theorem only_all : ∀ f, OnlyV f ∧ OnlyG f
  | 0 => by
    constructor
    · intro s v r h; unfold valueC at h; cases h
    · intro obj s ks l v r h; unfold groupC at h; cases h
  | f + 1 => ⟨onlyV f (only_all f).2, onlyG f (only_all f).1 (only_all f).2⟩

/-! ## every good value's text is read -/
theorem noNum_cons {c : UInt8} {r : List UInt8} (h : numC c = false) : noNum (c :: r) = true := by simp [noNum, h]
def BkV (f : Nat) : Prop := ∀ (v : V) (d : Nat) (r : List UInt8), v.fits d = true → v.size ≤ f → noNum r = true → valueC f (v.show ++ r) = some (v, r)
def BkL (f : Nat) : Prop := ∀ (x : V) (l : List V) (d : Nat) (acc : List V) (r : List UInt8), x.fits d = true → V.fitsAll l d = true → V.sizes (x :: l) ≤ f → groupC f false (V.items (x :: l) ++ 93 :: r) [] acc = some (.mk 5 0 [] (acc ++ x :: l) [], r)
def BkO (f : Nat) : Prop := ∀ (k : List UInt8) (x : V) (l : List V) (ks : List (List UInt8)) (d : Nat) (akc : List (List UInt8)) (acc : List V) (r : List UInt8), x.fits d = true → V.fitsAll l d = true → V.sizes (x :: l) ≤ f → ks.length = l.length →
  groupC f true (V.pairs (x :: l) (k :: ks) ++ 125 :: r) akc acc = some (.mk 6 0 [] (acc ++ x :: l) (akc ++ k :: ks), r)
theorem bkL (f : Nat) (ihV : BkV f) (ihL : BkL f) : BkL (f + 1) := by
  intro x l d acc r hx hl hs
  rw [sizes_cons] at hs
  unfold groupC
  simp only [Bool.false_eq_true, if_false]
  cases l with
  | nil =>
    have e : V.items [x] ++ 93 :: r = x.show ++ 93 :: r := by rw [items_cons, itemsMore_nil]; simp
    rw [e, ihV x d _ hx (by omega) (noNum_cons rfl)]
    simp only
    rw [b_one (d := 44) (by decide), b_same]; simp
  | cons y l =>
    have e : V.items (x :: y :: l) ++ 93 :: r = x.show ++ 44 :: (V.items (y :: l) ++ 93 :: r) := by rw [items_two]; simp
    rw [e, ihV x d _ hx (by omega) (noNum_cons rfl)]
    simp only
    rw [b_same, if_pos rfl]
    unfold V.fitsAll at hl
    simp only [Bool.and_eq_true] at hl
    show groupC f false (V.items (y :: l) ++ 93 :: r) [] (acc ++ [x]) = _
    rw [ihL y l d (acc ++ [x]) r hl.1 hl.2 (by omega)]
    simp
theorem bkO (f : Nat) (ihV : BkV f) (ihO : BkO f) : BkO (f + 1) := by
  intro k x l ks d akc acc r hx hl hs hk
  rw [sizes_cons] at hs
  unfold groupC
  simp only [if_true]
  cases l with
  | nil =>
    obtain rfl : ks = [] := List.length_eq_zero_iff.1 hk
    have e : V.pairs [x] [k] ++ 125 :: r = quoteJ k ++ 58 :: (x.show ++ 125 :: r) := by rw [pairs_cons, pairsMore_nil]; simp
    rw [e, quotedC_back]
    simp only
    rw [b_same, if_pos rfl]
    show (match valueC f (x.show ++ 125 :: r) with | none => none | some (x, r) => _) = _
    rw [ihV x d _ hx (by omega) (noNum_cons rfl)]
    simp only
    rw [b_one (d := 44) (by decide), b_same]; simp
  | cons y l =>
    cases ks with
    | nil => simp at hk
    | cons k2 ks =>
      have e : V.pairs (x :: y :: l) (k :: k2 :: ks) ++ 125 :: r = quoteJ k ++ 58 :: (x.show ++ 44 :: (V.pairs (y :: l) (k2 :: ks) ++ 125 :: r)) := by rw [pairs_two]; simp
      rw [e, quotedC_back]
      simp only
      rw [b_same, if_pos rfl]
      show (match valueC f (x.show ++ 44 :: (V.pairs (y :: l) (k2 :: ks) ++ 125 :: r)) with | none => none | some (x, r) => _) = _
      rw [ihV x d _ hx (by omega) (noNum_cons rfl)]
      simp only
      rw [b_same, if_pos rfl]
      unfold V.fitsAll at hl
      simp only [Bool.and_eq_true] at hl
      show groupC f true (V.pairs (y :: l) (k2 :: ks) ++ 125 :: r) (akc ++ [k]) (acc ++ [x]) = _
      rw [ihO k2 y l ks d (akc ++ [k]) (acc ++ [x]) r hl.1 hl.2 (by omega) (by simpa using hk)]
      simp
theorem bkV (f : Nat) (ihL : BkL f) (ihO : BkO f) : BkV (f + 1) := by
  intro v d r hf hs hr
  obtain ⟨k, n, t, l, ks⟩ := v
  cases d with
  | zero => rw [fits_zero] at hf; cases hf
  | succ d =>
    rw [fits_mk, Bool.and_eq_true] at hf
    obtain ⟨hh, hl⟩ := hf
    have H := head_says hh
    rw [size_mk] at hs
    have hk : k = 1 ∨ k = 2 ∨ k = 3 ∨ k = 4 ∨ k = 5 ∨ k = 6 := by have := H.kind; omega
    rcases hk with rfl | rfl | rfl | rfl | rfl | rfl
    · obtain rfl := H.zero (by decide) (by decide)
      obtain rfl := H.text (by decide)
      obtain rfl := zero_list (H.list (by decide) (by decide))
      obtain rfl := H.none (by decide)
      rw [show_one]
      unfold valueC; rw [begins_app, if_pos rfl]; rfl
    · obtain rfl := H.text (by decide)
      obtain rfl := zero_list (H.list (by decide) (by decide))
      obtain rfl := H.none (by decide)
      rw [show_two]
      rcases H.bool rfl with rfl | rfl
      · rw [if_neg (by decide)]
        unfold valueC
        have e : beginsB (falseT ++ r) nullT = false := b_null (by decide)
        have e2 : beginsB (falseT ++ r) trueT = false := b_true (by decide)
        rw [e, e2, begins_app]; rfl
      · rw [if_pos rfl]
        unfold valueC
        have e : beginsB (trueT ++ r) nullT = false := b_null (by decide)
        rw [e, begins_app]; rfl
    · obtain rfl := H.text (by decide)
      obtain rfl := zero_list (H.list (by decide) (by decide))
      obtain rfl := H.none (by decide)
      rw [show_three]
      have hb := numberC_back n (H.num rfl) r hr
      obtain ⟨c, r', e, hc⟩ : ∃ c r', decI n ++ r = c :: r' ∧ (isDigit c = true ∨ c = 45) := by
        obtain ⟨c, r', e, hc⟩ := decL_first n.natAbs
        unfold decI
        by_cases h : n < 0
        · rw [if_pos h]; exact ⟨45, _, rfl, .inr rfl⟩
        · rw [if_neg h, e]; exact ⟨c, _, rfl, .inl hc⟩
      rw [e] at hb ⊢
      have hne : ∀ x : UInt8, isDigit x = false → x ≠ 45 → c ≠ x := fun x h1 h2 => by
        rcases hc with h | h
        · exact digit_ne h h1
        · intro e; exact h2 (e.symm.trans h)
      unfold valueC
      rw [b_null (hne _ rfl (by decide)), b_true (hne _ rfl (by decide)), b_false (hne _ rfl (by decide)), b_one (d := 34) (hne _ rfl (by decide)), b_one (d := 91) (hne _ rfl (by decide)), b_one (d := 123) (hne _ rfl (by decide)), hb]
      rfl
    · obtain rfl := H.zero (by decide) (by decide)
      obtain rfl := zero_list (H.list (by decide) (by decide))
      obtain rfl := H.none (by decide)
      rw [show_four]
      have hq := quotedC_back t r
      have e : quoteJ t ++ r = 34 :: (quoteT t ++ r) := rfl
      rw [e] at hq ⊢
      unfold valueC
      rw [b_null (by decide), b_true (by decide), b_false (by decide), b_same, hq]; rfl
    · obtain rfl := H.zero (by decide) (by decide)
      obtain rfl := H.text (by decide)
      obtain rfl := H.none (by decide)
      rw [show_list]
      cases l with
      | nil =>
        rw [items_nil]
        show valueC (f + 1) (91 :: 93 :: r) = _
        unfold valueC
        rw [b_null (by decide), b_true (by decide), b_false (by decide), b_one (d := 34) (by decide), b_same]
        simp only [List.drop_succ_cons, List.drop_zero, Bool.false_eq_true, if_false, if_true]
        rw [b_same]; rfl
      | cons x l =>
        unfold V.fitsAll at hl
        simp only [Bool.and_eq_true] at hl
        obtain ⟨c, rr, ec, hc⟩ := show_first x
        have e : 91 :: (V.items (x :: l) ++ [93]) ++ r = 91 :: (V.items (x :: l) ++ 93 :: r) := by simp
        have e2 : V.items (x :: l) ++ 93 :: r = c :: (rr ++ V.itemsMore l ++ 93 :: r) := by rw [items_cons, ec]; simp
        have h2 := ihL x l d [] r hl.1 hl.2 (by omega)
        rw [e]
        rw [e2] at h2 ⊢
        unfold valueC
        rw [b_null (by decide), b_true (by decide), b_false (by decide), b_one (d := 34) (by decide), b_same]
        show (if beginsB (c :: (rr ++ V.itemsMore l ++ 93 :: r)) [93] then _ else groupC f false (c :: (rr ++ V.itemsMore l ++ 93 :: r)) [] []) = _
        rw [b_one hc, h2]; rfl
    · obtain rfl := H.zero (by decide) (by decide)
      obtain rfl := H.text (by decide)
      rw [show_object]
      have hkl := H.keys rfl
      cases l with
      | nil =>
        obtain rfl := List.length_eq_zero_iff.1 hkl
        rw [pairs_nil]
        show valueC (f + 1) (123 :: 125 :: r) = _
        unfold valueC
        rw [b_null (by decide), b_true (by decide), b_false (by decide), b_one (d := 34) (by decide), b_one (d := 91) (by decide), b_same]
        simp only [List.drop_succ_cons, List.drop_zero, Bool.false_eq_true, if_false, if_true]
        rw [b_same]; rfl
      | cons x l =>
        cases ks with
        | nil => simp at hkl
        | cons k ks =>
          unfold V.fitsAll at hl
          simp only [Bool.and_eq_true] at hl
          have e : 123 :: (V.pairs (x :: l) (k :: ks) ++ [125]) ++ r = 123 :: (V.pairs (x :: l) (k :: ks) ++ 125 :: r) := by simp
          have e2 : V.pairs (x :: l) (k :: ks) ++ 125 :: r = 34 :: (quoteT k ++ 58 :: (x.show ++ V.pairsMore l ks) ++ 125 :: r) := by rw [pairs_cons]; rfl
          have h2 := ihO k x l ks d [] [] r hl.1 hl.2 (by omega) (by simpa using hkl)
          rw [e]
          rw [e2] at h2 ⊢
          unfold valueC
          rw [b_null (by decide), b_true (by decide), b_false (by decide), b_one (d := 34) (by decide), b_one (d := 91) (by decide), b_same]
          show (if beginsB (34 :: (quoteT k ++ 58 :: (x.show ++ V.pairsMore l ks) ++ 125 :: r)) [125] then _ else groupC f true (34 :: (quoteT k ++ 58 :: (x.show ++ V.pairsMore l ks) ++ 125 :: r)) [] []) = _
          rw [b_one (by decide), h2]; rfl
theorem bk_all : ∀ f, BkV f ∧ BkL f ∧ BkO f
  | 0 => by
    refine ⟨?_, ?_, ?_⟩
    · intro v d r _ h; exact absurd h (by have := size_pos v; omega)
    · intro x l d acc r _ _ h; rw [sizes_cons] at h; omega
    · intro k x l ks d akc acc r _ _ h; rw [sizes_cons] at h; omega
  | f + 1 => ⟨bkV f (bk_all f).2.1 (bk_all f).2.2, bkL f (bk_all f).1 (bk_all f).2.1, bkO f (bk_all f).1 (bk_all f).2.2⟩
/-- what the code's Parse answers -/
def parseC (f : Nat) (s : List UInt8) : V × Int :=
  if 4096 < s.length then (V.zero, 3) else
    match valueC f s with
    | some (v, []) => if v.good then (if v.depth ≤ 8 then (v, 0) else (V.zero, 4)) else (V.zero, 2)
    | _ => (V.zero, 2)
/-- it is the document's -/
theorem parseC_eq (f : Nat) (s : List UInt8) (hf : 2 * s.length ≤ f) : parseC f s = parseV s := by
  unfold parseC parseV
  by_cases hl : 4096 < s.length
  · rw [if_pos hl, if_pos hl]
  · rw [if_neg hl, if_neg hl]
    cases hr : readV s with
    | some v =>
      obtain ⟨⟨d, hd⟩, hs⟩ := readV_some hr
      have hb := (bk_all f).1 v d [] hd (by have := size_show d v hd; rw [hs] at this; omega) rfl
      rw [List.append_nil, hs] at hb
      rw [hb]
      simp only
      rw [if_pos (fits_isgood hd), fits_good, fits_isgood hd]
      simp
    | none =>
      simp only
      cases hv : valueC f s with
      | none => rfl
      | some x =>
        obtain ⟨v, r⟩ := x
        cases r with
        | cons c r => rfl
        | nil =>
          simp only
          by_cases hg : v.good = true
          · have e := (only_all f).1 s v [] hv
            rw [List.append_nil] at e
            have := readV_of (s := s) (v := v) ⟨⟨_, good_fits hg⟩, e.symm⟩ (by omega)
            rw [this] at hr; cases hr
          · rw [if_neg hg]
end Go.Proofs.YthbbeojhipcjiaaDoor
namespace Go.Proofs.YthbbeojhipcjiaaDoor
open Go.RowKit

theorem hasPrefix_begins (s t : List UInt8) : Lib.hasPrefix s t = beginsB s t := by
  unfold Lib.hasPrefix beginsB
  induction t generalizing s with
  | nil => simp
  | cons c t ih =>
    cases s with
    | nil => simp
    | cons d s =>
      have := ih s
      simp only [List.isPrefixOf, List.length_cons, List.take_succ_cons]
      rw [this]
      rw [Bool.eq_iff_iff]
      simp
      intro _; exact eq_comm
theorem trimPrefix_yes {s t : List UInt8} (h : beginsB s t = true) : Lib.trimPrefix s t = s.drop t.length := by
  unfold Lib.trimPrefix; rw [hasPrefix_begins, h]; rfl
theorem trimPrefix_no {s t : List UInt8} (h : beginsB s t = false) : Lib.trimPrefix s t = s := by
  unfold Lib.trimPrefix; rw [hasPrefix_begins, h]; rfl
/-- what a \ and what is behind it stand for, and how many bytes tell it; 0: nothing -/
def escR : List UInt8 → UInt8 × Nat
  | e :: r' =>
    if e = 34 ∨ e = 92 then (e, 2)
    else match r' with
      | x :: y :: h :: l :: _ => if e = 117 ∧ x = 48 ∧ y = 48 ∧ (h = 48 ∨ h = 49) ∧ 0 ≤ hexC l then (UInt8.ofNat (16 * (h.toNat - 48) + (hexC l).toNat), 6) else (0, 0)
      | _ => (0, 0)
  | [] => (0, 0)
theorem quotC_esc (r acc : List UInt8) : quotC (92 :: r) acc = if (escR r).2 = 0 then none else quotC (r.drop ((escR r).2 - 1)) (acc ++ [(escR r).1]) := by
  conv => lhs; unfold quotC
  rw [if_neg (by decide), if_pos rfl]
  cases r with
  | nil => rfl
  | cons e r =>
    unfold escR
    simp only
    by_cases he : e = 34 ∨ e = 92
    · rw [if_pos he, if_pos he]; rfl
    · rw [if_neg he, if_neg he]
      rcases r with _ | ⟨x, _ | ⟨y, _ | ⟨h, _ | ⟨l, r⟩⟩⟩⟩
      · rfl
      · rfl
      · rfl
      · rfl
      · simp only
        by_cases hc : e = 117 ∧ x = 48 ∧ y = 48 ∧ (h = 48 ∨ h = 49) ∧ 0 ≤ hexC l
        · rw [if_pos hc, if_pos hc]; rfl
        · rw [if_neg hc, if_neg hc]; rfl
theorem escR_len (r : List UInt8) : (escR r).2 ≤ 6 ∧ (escR r).2 ≤ r.length + 1 := by
  cases r with
  | nil => simp [escR]
  | cons e r =>
    unfold escR
    by_cases he : e = 34 ∨ e = 92
    · simp only [if_pos he, List.length_cons]; omega
    · simp only [if_neg he]
      rcases r with _ | ⟨x, _ | ⟨y, _ | ⟨h, _ | ⟨l, r⟩⟩⟩⟩
      · simp
      · simp
      · simp
      · simp
      · simp only
        split
        · simp
        · simp
theorem idx01 (h : UInt8) : Lib.indexByte [48, 49] h = if h = 48 then 0 else if h = 49 then 1 else -1 := by
  have : ∀ n : Fin 256, Lib.indexByte [48, 49] (UInt8.ofNat n.val) = if UInt8.ofNat n.val = 48 then 0 else if UInt8.ofNat n.val = 49 then 1 else -1 := by decide +kernel
  have h' := this ⟨h.toNat, h.toNat_lt⟩
  simp only [UInt8.ofNat_toNat] at h'
  exact h'
theorem idx16 (l : UInt8) : Lib.indexByte [48, 49, 50, 51, 52, 53, 54, 55, 56, 57, 97, 98, 99, 100, 101, 102] l = hexC l := by
  have : ∀ n : Fin 256, Lib.indexByte [48, 49, 50, 51, 52, 53, 54, 55, 56, 57, 97, 98, 99, 100, 101, 102] (UInt8.ofNat n.val) = hexC (UInt8.ofNat n.val) := by decide +kernel
  have h' := this ⟨l.toNat, l.toNat_lt⟩
  simp only [UInt8.ofNat_toNat] at h'
  exact h'
theorem or0 (m : Nat) (h : m < 16) : bits .or .i64 0 (m : Int) = m := by
  have : ∀ n : Fin 16, bits .or .i64 0 (n.val : Int) = n.val := by decide +kernel
  exact this ⟨m, h⟩
theorem or16 (m : Nat) (h : m < 16) : bits .or .i64 16 (m : Int) = 16 + m := by
  have : ∀ n : Fin 16, bits .or .i64 16 (n.val : Int) = 16 + n.val := by decide +kernel
  exact this ⟨m, h⟩
theorem Tryd.slice01 (w : World) : (Instr.slice 9 (.string ⟨#[48, 49, 50, 51, 52, 53, 54, 55, 56, 57, 97, 98, 99, 100, 101, 102]⟩) none (some (.int .i64 2)) none).run Tryd.prog w = .ok (.string ⟨#[48, 49]⟩) w := by kernel_rfl
set_option maxRecDepth 100000 in
set_option maxHeartbeats 2000000 in
theorem escaped_any (s : ByteArray) (r : List UInt8) (hs : s.data.toList = 92 :: r) (hsz : s.size ≤ 1000000) (w : World) :
    Calls Tryd.prog 72 #[.string s] w fun e w' => e = .returned (.tuple #[.int .u8 (escR r).1.toNat, .int .i64 (escR r).2]) ∧ ∃ q, w' = w.drewN q := by
  have hsl : s.data.toList.length = s.size := rfl
  have hlen : s.size = r.length + 1 := by rw [← hsl, hs]; rfl
  have hcp := fun w => Tryd.strings_CutPrefix s ⟨#[92, 117, 48, 48]⟩ w
  obtain ⟨ER, hER⟩ : ∃ ER, escR r = ER := ⟨_, rfl⟩
  rw [hER]
  cases r with
  | nil =>
    have e0 : ER = (0, 0) := hER.symm.trans rfl
    have hb : beginsB (92 :: []) [92, 117, 48, 48] = false := rfl
    rw [hs] at hcp
    rw [trimPrefix_no hb, hasPrefix_begins, hb] at hcp
    have t1 : s.size = 1 := hlen
    subst e0
    have HCP := Lib.hid hcp; clear hcp hs hsl hlen hER
    go_enter Tryd.func72, Tryd.ntmps72
    go_wp2_with (go_at_call 73; refine (HCP.out _).mono ?_; rintro e1 w1 ⟨rfl, rfl⟩)
    go_ret2
    exact ⟨rfl, 0, rfl⟩
  | cons e r =>
    have h1 : 1 < s.size := by rw [hlen]; simp
    have g1 : s[1] = e := by
      have : s.data.toList[1]'(by rw [hs]; simp) = e := by simp only [hs]; rfl
      exact this
    have t1 : decide ((2 : Int) ≤ (s.size : Int)) = true := by simp; omega
    by_cases he : e = 34 ∨ e = 92
    · have e0 : ER = (e, 2) := hER.symm.trans (by unfold escR; dsimp only; rw [if_pos he])
      subst e0
      by_cases h34 : e = 34
      · have t2 : ((s[1].toNat : Int) == 34) = true := by rw [g1, h34]; rfl
        have G1 := Lib.hid g1; have E34 := Lib.hid h34
        clear hs hsl hlen hER hcp g1 he h34
        go_enter Tryd.func72, Tryd.ntmps72
        go_wp2
        go_ret2
        exact ⟨by rw [G1.out]; rfl, 0, rfl⟩
      · have h92 : e = 92 := by rcases he with h | h; exact absurd h h34; exact h
        have t2 : ((s[1].toNat : Int) == 34) = false := by rw [g1, h92]; rfl
        have t3 : ((s[1].toNat : Int) == 92) = true := by rw [g1, h92]; rfl
        have G1 := Lib.hid g1; have E92 := Lib.hid h92
        clear hs hsl hlen hER hcp g1 he h34 h92
        go_enter Tryd.func72, Tryd.ntmps72
        go_wp2
        go_ret2
        exact ⟨by rw [G1.out]; rfl, 0, rfl⟩
    · have n34 : e.toNat ≠ 34 := fun h => he (.inl (UInt8.toNat_inj.1 h))
      have n92 : e.toNat ≠ 92 := fun h => he (.inr (UInt8.toNat_inj.1 h))
      have t2 : ((s[1].toNat : Int) == 34) = false := by rw [g1]; simp; omega
      have t3 : ((s[1].toNat : Int) == 92) = false := by rw [g1]; simp; omega
      rw [hs] at hcp
      by_cases hb : beginsB (92 :: e :: r) [92, 117, 48, 48] = true
      · rw [trimPrefix_yes hb, hasPrefix_begins, hb] at hcp
        obtain ⟨rfl, r, rfl⟩ : e = 117 ∧ ∃ r', r = 48 :: 48 :: r' := by
          have := begins_full hb
          simp only [List.cons_append, List.nil_append, List.cons.injEq, true_and] at this
          exact ⟨this.1, _, this.2⟩
        have hcp2 : ∀ w : World, Calls Tryd.prog 73 #[.string s, .string ⟨#[92, 117, 48, 48]⟩] w fun e w' => e = .returned (.tuple #[.string ⟨r.toArray⟩, .bool true]) ∧ w' = w := hcp
        clear hcp
        have hr5 : s.size = r.length + 4 := by rw [hlen]; simp
        have hts : (⟨r.toArray⟩ : ByteArray).size = r.length := by show r.toArray.size = _; simp
        have htl : (⟨r.toArray⟩ : ByteArray).data.toList = r := by simp
        obtain ⟨two, htwo⟩ : ∃ two : ByteArray, two = ⟨r.toArray⟩ := ⟨_, rfl⟩
        rw [← htwo] at hcp2 hts htl
        by_cases hl2 : r.length < 2
        · have e0 : ER = (0, 0) := hER.symm.trans (by
            unfold escR
            dsimp only
            rw [if_neg (by decide)]
            rcases r with _ | ⟨x, _ | ⟨y, r⟩⟩
            · rfl
            · rfl
            · simp at hl2; omega)
          subst e0
          have t5 : decide ((two.size : Int) < 2) = true := by simp; omega
          have HCP := Lib.hid hcp2; clear hcp2 hs hsl hlen hER g1 he hb n34 n92 htwo htl
          go_enter Tryd.func72, Tryd.ntmps72
          go_wp2_with (go_at_call 73; refine (HCP.out _).mono ?_; rintro e1 w1 ⟨rfl, rfl⟩)
          go_ret2
          exact ⟨rfl, 0, rfl⟩
        · obtain ⟨h, l, r, rfl⟩ : ∃ h l r', r = h :: l :: r' := by
            rcases r with _ | ⟨x, _ | ⟨y, r⟩⟩
            · simp at hl2
            · simp at hl2
            · exact ⟨x, y, r, rfl⟩
          have t5 : decide ((two.size : Int) < 2) = false := by simp; omega
          have k0 : 0 < two.size := by omega
          have k1 : 1 < two.size := by omega
          have y0 : two[0] = h := by
            have : two.data.toList[0]'(by rw [htl]; simp) = h := by simp only [htl]; rfl
            exact this
          have y1 : two[1] = l := by
            have : two.data.toList[1]'(by rw [htl]; simp) = l := by simp only [htl]; rfl
            exact this
          have i0 := fun w => Tryd.strings_IndexByte ⟨#[48, 49]⟩ (two[0].toNat : Int) w
          have i1 := fun w => Tryd.strings_IndexByte ⟨#[48, 49, 50, 51, 52, 53, 54, 55, 56, 57, 97, 98, 99, 100, 101, 102]⟩ (two[1].toNat : Int) w
          have I0 : ∀ w, Calls Tryd.prog 48 #[.string ⟨#[48, 49]⟩, .int .u8 (two[0].toNat : Int)] w fun e w' => e = .returned (.int .i64 (if h = 48 then 0 else if h = 49 then 1 else -1)) ∧ w' = w := fun w => (i0 w).mono fun e w' ⟨h1, h2⟩ => ⟨by
            rw [h1, y0]
            have : ((h.toNat : Int)).toNat.toUInt8 = h := by simp
            rw [this]; exact congrArg (fun x => Ending.returned (.int .i64 x)) (idx01 h), h2⟩
          have I1 : ∀ w, Calls Tryd.prog 48 #[.string ⟨#[48, 49, 50, 51, 52, 53, 54, 55, 56, 57, 97, 98, 99, 100, 101, 102]⟩, .int .u8 (two[1].toNat : Int)] w fun e w' => e = .returned (.int .i64 (hexC l)) ∧ w' = w := fun w => (i1 w).mono fun e w' ⟨h1, h2⟩ => ⟨by
            rw [h1, y1]
            have : ((l.toNat : Int)).toNat.toUInt8 = l := by simp
            rw [this]; exact congrArg (fun x => Ending.returned (.int .i64 x)) (idx16 l), h2⟩
          clear i0 i1
          have hER2 : ER = if (h = 48 ∨ h = 49) ∧ 0 ≤ hexC l then (UInt8.ofNat (16 * (h.toNat - 48) + (hexC l).toNat), 6) else (0, 0) := hER.symm.trans (by
            unfold escR
            dsimp only
            rw [if_neg (by decide)]
            simp only [true_and])
          have HER := Lib.hid hER2
          obtain ⟨p, hp⟩ : ∃ p : Int, (if h = 48 then 0 else if h = 49 then 1 else -1) = p := ⟨_, rfl⟩
          obtain ⟨q, hq⟩ : ∃ q : Int, hexC l = q := ⟨_, rfl⟩
          rw [hp] at I0; rw [hq] at I1
          have HP := Lib.hid hp; have HQ := Lib.hid hq; have HI0 := Lib.hid I0; have HI1 := Lib.hid I1; have HCP := Lib.hid hcp2
          have h46 : s.size = two.size + 4 := by rw [hr5, hts]
          have hw6 : (s.size : Int) - two.size + 2 = 6 := by omega
          have hw4 : (s.size : Int) - two.size = 4 := by omega
          clear hr5 hts h46 hl2
          clear hcp2 hs hsl hlen hER g1 he hb n34 n92 htwo htl hER2 hp hq I0 I1 y0 y1
          have hsl01 := Tryd.slice01
          have hx0 : ∀ W, (Instr.index 9 (.string two) (.int .i64 0)).run Tryd.prog W = .ok (.int .u8 (two[0].toNat : Int)) W := fun W => by
            have := run_index_string (P := Tryd.prog) (w := W) 9 two .i64 0 Tryd.underlying9
            rw [this, dif_pos ⟨by decide, by omega⟩]; rfl
          have hx1 : ∀ W, (Instr.index 9 (.string two) (.int .i64 1)).run Tryd.prog W = .ok (.int .u8 (two[1].toNat : Int)) W := fun W => by
            have := run_index_string (P := Tryd.prog) (w := W) 9 two .i64 1 Tryd.underlying9
            rw [this, dif_pos ⟨by decide, by omega⟩]; rfl
          by_cases h01 : h = 48 ∨ h = 49
          · by_cases hq0 : 0 ≤ hexC l
            · have hq16 := (hexC_is l hq0).2
              have e0 : ER = (UInt8.ofNat (16 * (h.toNat - 48) + (hexC l).toNat), 6) := HER.out.trans (if_pos ⟨h01, hq0⟩)
              rw [HQ.out] at e0 hq0 hq16
              obtain ⟨m, rfl⟩ : ∃ m : Nat, q = m := ⟨q.toNat, by omega⟩
              have hm : m < 16 := by omega
              have q0 : decide ((m : Int) < 0) = false := by simp
              have ho0 : bits .or .i64 0 (m : Int) = m := or0 m hm
              have ho1 : bits .or .i64 16 (m : Int) = 16 + m := or16 m hm
              have hcv0 : IntKind.u8.wrap (m : Int) = m := by rw [IntKind.wrap_u8]; omega
              have hcv1 : IntKind.u8.wrap (16 + m : Int) = 16 + m := by rw [IntKind.wrap_u8]; omega
              rcases h01 with rfl | rfl
              · obtain rfl : p = 0 := HP.out.symm.trans rfl
                subst e0
                have hb : ((UInt8.ofNat (16 * ((48 : UInt8).toNat - 48) + (m : Int).toNat)).toNat : Int) = m := by
                  rw [UInt8.toNat_ofNat']; have : (48 : UInt8).toNat = 48 := rfl; omega
                have HB := Lib.hid hb; clear hb
                go_enter Tryd.func72, Tryd.ntmps72
                go_wp2_with (go_at_call 73; refine (HCP.out _).mono ?_; rintro e1 w1 ⟨rfl, rfl⟩)
                go_quiet (first | (go_at_call 48; exact Calls.quiet_of_same (HI0.out _)) | (go_at_call 48; exact Calls.quiet_of_same (HI1.out _)))
                go_wp2
                go_ret2
                exact ⟨congrArg (fun x => Ending.returned (.tuple #[.int .u8 x, .int .i64 6])) HB.out.symm, _, rfl⟩
              · obtain rfl : p = 1 := HP.out.symm.trans rfl
                subst e0
                have hb : ((UInt8.ofNat (16 * ((49 : UInt8).toNat - 48) + (m : Int).toNat)).toNat : Int) = 16 + m := by
                  rw [UInt8.toNat_ofNat']; have : (49 : UInt8).toNat = 49 := rfl; omega
                have HB := Lib.hid hb; clear hb
                go_enter Tryd.func72, Tryd.ntmps72
                go_wp2_with (go_at_call 73; refine (HCP.out _).mono ?_; rintro e1 w1 ⟨rfl, rfl⟩)
                go_quiet (first | (go_at_call 48; exact Calls.quiet_of_same (HI0.out _)) | (go_at_call 48; exact Calls.quiet_of_same (HI1.out _)))
                go_wp2
                go_ret2
                exact ⟨congrArg (fun x => Ending.returned (.tuple #[.int .u8 x, .int .i64 6])) HB.out.symm, _, rfl⟩
            · have e0 : ER = (0, 0) := HER.out.trans (if_neg (fun h => hq0 h.2))
              have q0 : decide (q < 0) = true := by rw [HQ.out] at hq0; simp; omega
              subst e0
              rcases h01 with rfl | rfl
              · obtain rfl : p = 0 := HP.out.symm.trans rfl
                go_enter Tryd.func72, Tryd.ntmps72
                go_wp2_with (go_at_call 73; refine (HCP.out _).mono ?_; rintro e1 w1 ⟨rfl, rfl⟩)
                go_quiet (first | (go_at_call 48; exact Calls.quiet_of_same (HI0.out _)) | (go_at_call 48; exact Calls.quiet_of_same (HI1.out _)))
                go_wp2
                go_ret2
                exact ⟨rfl, _, rfl⟩
              · obtain rfl : p = 1 := HP.out.symm.trans rfl
                go_enter Tryd.func72, Tryd.ntmps72
                go_wp2_with (go_at_call 73; refine (HCP.out _).mono ?_; rintro e1 w1 ⟨rfl, rfl⟩)
                go_quiet (first | (go_at_call 48; exact Calls.quiet_of_same (HI0.out _)) | (go_at_call 48; exact Calls.quiet_of_same (HI1.out _)))
                go_wp2
                go_ret2
                exact ⟨rfl, _, rfl⟩
          · have e0 : ER = (0, 0) := HER.out.trans (if_neg (fun h => h01 h.1))
            obtain rfl : p = -1 := HP.out.symm.trans (by rw [if_neg (fun h => h01 (.inl h)), if_neg (fun h => h01 (.inr h))])
            subst e0
            go_enter Tryd.func72, Tryd.ntmps72
            go_wp2_with (go_at_call 73; refine (HCP.out _).mono ?_; rintro e1 w1 ⟨rfl, rfl⟩)
            go_quiet (first | (go_at_call 48; exact Calls.quiet_of_same (HI0.out _)) | (go_at_call 48; exact Calls.quiet_of_same (HI1.out _)))
            go_wp2
            go_ret2
            exact ⟨rfl, _, rfl⟩
      · have hb' : beginsB (92 :: e :: r) [92, 117, 48, 48] = false := by simpa using hb
        rw [trimPrefix_no hb', hasPrefix_begins, hb'] at hcp
        have e0 : ER = (0, 0) := hER.symm.trans (by
          unfold escR
          dsimp only
          rw [if_neg he]
          rcases r with _ | ⟨x, _ | ⟨y, _ | ⟨h, _ | ⟨l, r⟩⟩⟩⟩
          · rfl
          · rfl
          · rfl
          · rfl
          · refine if_neg ?_
            rintro ⟨rfl, rfl, rfl, _⟩
            exact hb (by simp [beginsB]))
        subst e0
        have HCP := Lib.hid hcp; clear hcp hs hsl hlen hER g1 he hb hb' n34 n92
        go_enter Tryd.func72, Tryd.ntmps72
        go_wp2_with (go_at_call 73; refine (HCP.out _).mono ?_; rintro e1 w1 ⟨rfl, rfl⟩)
        go_ret2
        exact ⟨rfl, 0, rfl⟩
end Go.Proofs.YthbbeojhipcjiaaDoor
namespace Go.Proofs.YthbbeojhipcjiaaDoor
open Go.RowKit

theorem extS (s : ByteArray) (k : Nat) : s.extract k s.size = ⟨(s.data.toList.drop k).toArray⟩ := by
  apply ByteArray.ext
  rw [ByteArray.data_extract]
  apply Array.ext'
  rw [Array.toList_extract, List.extract]
  show (s.data.toList.drop k).take (s.size - k) = _
  rw [List.take_of_length_le]
  rw [List.length_drop]
  exact Nat.le_refl _
theorem toListS (t : List UInt8) : (⟨t.toArray⟩ : ByteArray).data.toList = t := by simp
/-- what quoted answers -/
def quotedR (s : List UInt8) : List UInt8 × List UInt8 × Bool := match quotedC s with
  | some (t, r) => (t, r, true)
  | none => ([], [], false)
theorem quotC_end (acc : List UInt8) : quotC [] acc = none := by unfold quotC; rfl
theorem quotC_stop (r acc : List UInt8) : quotC (34 :: r) acc = some (acc, r) := by unfold quotC; rw [if_pos rfl]
theorem quotC_low (c : UInt8) (r acc : List UInt8) (h34 : c ≠ 34) (h92 : c ≠ 92) (h : c.toNat < 32) : quotC (c :: r) acc = none := by unfold quotC; rw [if_neg h34, if_neg h92, if_pos h]
theorem quotC_plain (c : UInt8) (r acc : List UInt8) (h34 : c ≠ 34) (h92 : c ≠ 92) (h : ¬ c.toNat < 32) : quotC (c :: r) acc = quotC r (acc ++ [c]) := by
  conv => lhs; unfold quotC
  rw [if_neg h34, if_neg h92, if_neg h]
set_option maxRecDepth 100000 in
set_option maxHeartbeats 2000000 in
theorem quoted_any (s : ByteArray) (hs : s.size ≤ 1000000) (w : World) :
    Calls Tryd.prog 52 #[.string s] w fun e w' => e = .returned (.tuple #[.string ⟨(quotedR s.data.toList).1.toArray⟩, .string ⟨(quotedR s.data.toList).2.1.toArray⟩, .bool (quotedR s.data.toList).2.2]) ∧ Below w.heap.size w w' := by
  obtain ⟨i0, hi, hz0, hz1, hz2⟩ := info_parts Tryd.infoByte
  have hhp := fun w => Tryd.strings_HasPrefix s ⟨#[34]⟩ w
  simp only [hasPrefix_begins] at hhp
  have hsl : s.data.toList.length = s.size := rfl
  obtain ⟨QR, hQR⟩ : ∃ QR, quotedR s.data.toList = QR := ⟨_, rfl⟩
  rw [hQR]
  cases hb : beginsB s.data.toList [34] with
  | false =>
    have e : QR = ([], [], false) := hQR.symm.trans (by unfold quotedR quotedC; rw [hb]; rfl)
    subst e
    rw [show beginsB s.data.toList (⟨#[34]⟩ : ByteArray).data.toList = false from hb] at hhp
    have HP := Lib.hid hhp; clear hhp hQR hb
    go_enter Tryd.func52, Tryd.ntmps52
    go_wp2_with fail
    go_step3
    go_wp2_with (go_at_call 51; refine (HP.out _).mono ?_; rintro e1 w1 ⟨rfl, rfl⟩)
    rw [Exit.noGoto_ret]
    refine bodyPost_ret (v := .tuple #[.string ⟨#[]⟩, .string ⟨#[]⟩, .bool false]) (by simp [results, Tryd.results52, go_sem]) rfl ?_
    exact ⟨rfl, Below.refl _ _⟩
  | true =>
    rw [show beginsB s.data.toList (⟨#[34]⟩ : ByteArray).data.toList = true from hb] at hhp
    have h1 : 1 ≤ s.size := by
      have := congrArg List.length (begins_one hb)
      rw [hsl] at this; simp at this; omega
    have hq : QR = match quotC (s.data.toList.drop 1) [] with | some (t, r) => (t, r, true) | none => ([], [], false) := hQR.symm.trans (by unfold quotedR quotedC; rw [hb]; rfl)
    have HP := Lib.hid hhp; have HQ := Lib.hid hq
    clear hhp hQR hb hq
    go_enter Tryd.func52, Tryd.ntmps52
    go_wp2_with fail
    go_step3
    go_wp2_with (go_at_call 51; refine (HP.out _).mono ?_; rintro e1 w1 ⟨rfl, rfl⟩)
    go_step3
    go_wp2_with fail
    go_loopw [5, 6] (fun v i wr => ∃ (k : Nat) (acc : List UInt8), 1 ≤ k ∧ k ≤ s.size ∧ i = .int .i64 k ∧ acc.length ≤ k ∧ Buf wr w1.heap.size v acc ∧ quotC (s.data.toList.drop k) acc = quotC (s.data.toList.drop 1) [] ∧ Below w1.heap.size w1 wr) (fun _ i _ => s.size - (intOf i).toNat)
    case atStart => exact ⟨1, [], Nat.le_refl _, h1, rfl, by simp, ⟨rfl, Or.inl ⟨rfl, rfl⟩⟩, rfl, Below.refl _ _⟩
    case round =>
      obtain ⟨k, acc, hk1, hk, rfl, hal, hown, hw, hb⟩ := hrel
      have hbs := hb.size
      by_cases hlt : k < s.size
      · have hdk : s.data.toList.drop k = s[k] :: s.data.toList.drop (k + 1) := List.drop_eq_getElem_cons (by rw [hsl]; exact hlt)
        rw [hdk] at hw
        have hu := s[k].toNat_lt
        by_cases h34 : s[k] = 34
        · rw [h34, quotC_stop] at hw
          have t1 : ((s[k].toNat : Int) == 34) = true := by rw [h34]; rfl
          have hcv := hown.text
          have hcv2 := (hown.below ((Below.refl wr.heap.size wr).drew)).text
          have hxs : s.extract (k + 1) s.size = ⟨(s.data.toList.drop (k + 1)).toArray⟩ := extS s (k + 1)
          have HXS := Lib.hid hxs; clear hxs
          have hke : ((k : Int) == (s.size : Int)) = false := by simp; omega
          have e : QR = (acc, s.data.toList.drop (k + 1), true) := by rw [HQ.out, ← hw]
          subst e
          have H34 := Lib.hid h34; clear hw h34 hdk
          go_wp2
          go_region
          all_goals
            go_wp2
            rw [Exit.noGoto_ret]
            refine bodyPost_ret (v := .tuple #[.string ⟨acc.toArray⟩, .string (s.extract (k + 1) s.size), .bool true]) (by simp [results, Tryd.results52, go_sem]) rfl ?_
            exact ⟨by rw [HXS.out], hb.drew⟩
        · have h34n : s[k].toNat ≠ 34 := fun e => h34 (UInt8.toNat_inj.1 e)
          have t1 : ((s[k].toNat : Int) == 34) = false := by simp; omega
          by_cases h92 : s[k] = 92
          · have t2 : ((s[k].toNat : Int) == 92) = true := by rw [h92]; rfl
            rw [h92, quotC_esc] at hw
            have hel := escR_len (s.data.toList.drop (k + 1))
            rw [List.length_drop, hsl] at hel
            have hxs : (s.extract k s.size).data.toList = 92 :: s.data.toList.drop (k + 1) := by rw [extS, toListS, hdk, h92]
            have hes := fun w => escaped_any (s.extract k s.size) (s.data.toList.drop (k + 1)) hxs (by rw [ext_size]; omega) w
            obtain ⟨ER, hER⟩ : ∃ ER, escR (s.data.toList.drop (k + 1)) = ER := ⟨_, rfl⟩
            rw [hER] at hw hel hes
            obtain ⟨c, n⟩ := ER
            dsimp only at hw hel hes
            have HES := Lib.hid hes; have H92 := Lib.hid h92; have H34 := Lib.hid h34; have HL := Lib.hid hel; clear hes h92 h34 h34n hdk hER hxs
            by_cases hn : n = 0
            · subst hn
              rw [if_pos rfl] at hw
              have e : QR = ([], [], false) := by rw [HQ.out, ← hw]
              subst e
              clear hw hel
              go_wp2_with (go_at_call 72; refine (HES.out _).mono ?_; rintro e2 w2 ⟨rfl, q, rfl⟩)
              rw [Exit.noGoto_ret]
              refine bodyPost_ret (v := .tuple #[.string ⟨#[]⟩, .string ⟨#[]⟩, .bool false]) (by simp [results, Tryd.results52, go_sem]) rfl ?_
              exact ⟨rfl, belowDrewN hb q⟩
            · rw [if_neg hn, List.drop_drop] at hw
              have hkn : k + 1 + (n - 1) = k + n := by omega
              rw [hkn] at hw
              have tn : ((n : Int) == 0) = false := by simp; omega
              have hn6 : n ≤ 6 := hel.1
              have hkn2 : k + n ≤ s.size := by omega
              have HW := Lib.hid hw; clear hw hkn hel
              have hown2 := fun q => hown.below (belowDrewN (Below.refl wr.heap.size wr) q)
              go_wp2_with (first
                | (go_at_call 72; refine (HES.out _).mono ?_; rintro e2 w2 ⟨rfl, q, rfl⟩)
                | (at_builtin; refine wpList_append_own _ rfl (.tmp 41) (.tmp 43) 67 rfl w1.heap.size 5 i0 _ 1 1 Tryd.underlying67 hi hz0 hz1 hz2 rfl (by decide) _ _ _ rfl (World.ownsRow.alloc (hown2 q) _) ⟨_, 0, none⟩ 1 1 [.int .u8 c.toNat] rfl rfl (new_cells _ #[_] _) (one_cell _) (by unfold maxLen; omega) (by omega) (by simp; omega) ?_; intro v' w3 hown' hg' _))
              have hb1 : Below w1.heap.size w1 w3 := ((belowDrewN hb q).alloc (by simp; omega) _).grown hg' (by simp; omega) (fun j hj => (hown.lt j hj).1)
              go_wp2
              go_roundw
              case rel => exact ⟨k + n, acc ++ [c], by omega, by omega, by go_num, by simp; omega, Buf.cut hown' (by simp) (by rw [cells_app]; rfl), HW.out, hb1⟩
              case measure => simp [intOf]; omega
          · have h92n : s[k].toNat ≠ 92 := fun e => h92 (UInt8.toNat_inj.1 e)
            have t2 : ((s[k].toNat : Int) == 92) = false := by simp; omega
            by_cases h32 : s[k].toNat < 32
            · have t3 : decide ((s[k].toNat : Int) < 32) = true := by simp; omega
              rw [quotC_low _ _ _ h34 h92 h32] at hw
              have e : QR = ([], [], false) := by rw [HQ.out, ← hw]
              subst e
              have H92 := Lib.hid h92; have H34 := Lib.hid h34; clear h92 h34 h34n h92n hdk hw
              go_wp2
              rw [Exit.noGoto_ret]
              refine bodyPost_ret (v := .tuple #[.string ⟨#[]⟩, .string ⟨#[]⟩, .bool false]) (by simp [results, Tryd.results52, go_sem]) rfl ?_
              exact ⟨rfl, hb⟩
            · have t3 : decide ((s[k].toNat : Int) < 32) = false := by simp; omega
              rw [quotC_plain _ _ _ h34 h92 h32] at hw
              have HW := Lib.hid hw; have H92 := Lib.hid h92; have H34 := Lib.hid h34; clear h92 h34 h34n h92n hdk hw
              go_wp2_with (at_builtin; refine wpList_append_own _ rfl (.tmp 20) (.tmp 22) 67 rfl w1.heap.size 5 i0 _ 1 1 Tryd.underlying67 hi hz0 hz1 hz2 rfl (by decide) _ _ _ rfl (World.ownsRow.alloc hown _) ⟨_, 0, none⟩ 1 1 [.int .u8 s[k].toNat] rfl rfl (new_cells _ #[_] _) (one_cell _) (by unfold maxLen; omega) (by omega) (by simp; omega) ?_; intro v' w3 hown' hg' _)
              have hb1 : Below w1.heap.size w1 w3 := (hb.alloc hbs _).grown hg' (by simp; omega) (fun j hj => (hown.lt j hj).1)
              go_wp2
              go_roundw
              case rel => exact ⟨k + 1, acc ++ [s[k]], by omega, by omega, by go_num, by simp; omega, Buf.cut hown' (by simp) (by rw [cells_app]; rfl), HW.out, hb1⟩
              case measure => simp [intOf]; omega
      · have hke : k = s.size := by omega
        subst hke
        rw [List.drop_of_length_le (by rw [hsl]; exact Nat.le_refl _), quotC_end] at hw
        have e : QR = ([], [], false) := by rw [HQ.out, ← hw]
        subst e
        clear hw
        go_wp2
        rw [Exit.noGoto_ret]
        refine bodyPost_ret (v := .tuple #[.string ⟨#[]⟩, .string ⟨#[]⟩, .bool false]) (by simp [results, Tryd.results52, go_sem]) rfl ?_
        exact ⟨rfl, hb⟩
end Go.Proofs.YthbbeojhipcjiaaDoor
