/- Texts merged by program, in build order: RecPure, StoreRec, Texts, QRow. -/
import Derived.Test.YtkbjpgfdmkmbmaaGreatDoorG02
import Derived.Test.YtkbjpgfdmkmbmaaGreatDoorG01
set_option linter.unusedVariables false
set_option linter.unusedSimpArgs false
namespace Go.Proofs.YtkbjpgfdmkmbmaaGreatDoor

def Ch.val (c : Ch) : List UInt8 := if c.gone = true then [] else c.value
def recOne (c : Ch) : List UInt8 := four (if c.gone = true then 1 else 0) ++ four c.key.length ++ c.key ++ four c.val.length ++ c.val
def recAll (l : List Ch) : List UInt8 := (l.map recOne).flatten
def recL (l : List Ch) : List UInt8 := four l.length ++ recAll l
theorem recAll_cons (c : Ch) (l : List Ch) : recAll (c :: l) = recOne c ++ recAll l := rfl
theorem recAll_snoc (l : List Ch) (c : Ch) : recAll (l ++ [c]) = recAll l ++ recOne c := by simp [recAll]
theorem recOne_len (c : Ch) : (recOne c).length = 12 + c.key.length + c.val.length := by
  unfold recOne
  simp only [List.length_append, four_len]
  omega
/-- a text ahead of a rest -/
def txtL (r : List UInt8) : Option (List UInt8 × List UInt8) := if 4 ≤ r.length ∧ num4 r ≤ r.length - 4 then some ((r.drop 4).take (num4 r), r.drop (4 + num4 r)) else none
/-- a change ahead of a rest -/
def chgL (r : List UInt8) : Option (Ch × List UInt8) :=
  if 4 ≤ r.length then
    match txtL (r.drop 4) with
    | none => none
    | some (k, r2) => match txtL r2 with
      | none => none
      | some (v, r3) => some (⟨k, v, decide (num4 r = 1)⟩, r3)
  else none
def chgsL : Nat → List UInt8 → Option (List Ch)
  | 0, _ => some []
  | n + 1, r => match chgL r with
    | none => none
    | some (c, r2) => match chgsL n r2 with
      | none => none
      | some l => some (c :: l)
/-- of a record: its changes -/
def changesL (b : List UInt8) : Option (List Ch) := if 4 ≤ b.length then
    match chgsL (num4 b) (b.drop 4) with
    | none => none
    | some l => if recL l = b then some l else none
  else none
theorem txt_four (s t : List UInt8) (h : s.length < 4294967296) : txtL (four s.length ++ s ++ t) = some (s, t) := by
  have hn : num4 (four s.length ++ s ++ t) = s.length := by rw [List.append_assoc]; exact num4_four _ _ h
  unfold txtL
  rw [hn, if_pos ⟨by simp only [List.length_append, four_len]; omega, by simp only [List.length_append, four_len]; omega⟩]
  have h1 : (four s.length ++ s ++ t).drop 4 = s ++ t := by rw [List.append_assoc]; exact List.drop_left' (four_len _)
  have h2 : (four s.length ++ s ++ t).drop (4 + s.length) = t := List.drop_left' (by rw [List.length_append, four_len])
  rw [h1, h2, List.take_left' rfl]
def Ch.norm (c : Ch) : Ch := ⟨c.key, c.val, c.gone⟩
theorem gone_num (b : Bool) : decide ((if b = true then 1 else 0) = 1) = b := by cases b <;> rfl
theorem gone_lt (b : Bool) : (if b = true then 1 else 0) < 4294967296 := by cases b <;> simp
theorem chgL_eq (r : List UInt8) (h : 4 ≤ r.length) (k v r2 r3 : List UInt8) (h1 : txtL (r.drop 4) = some (k, r2)) (h2 : txtL r2 = some (v, r3)) : chgL r = some (⟨k, v, decide (num4 r = 1)⟩, r3) := by
  unfold chgL
  rw [if_pos h, h1]
  dsimp only
  rw [h2]
theorem chg_one (c : Ch) (t : List UInt8) (hk : c.key.length < 4294967296) (hv : c.val.length < 4294967296) : chgL (recOne c ++ t) = some (c.norm, t) := by
  obtain ⟨n, hn⟩ : ∃ n, (if c.gone = true then 1 else 0) = n := ⟨_, rfl⟩
  have hn4 : n < 4294967296 := by rw [← hn]; exact gone_lt _
  have hg : decide (n = 1) = c.gone := by rw [← hn]; exact gone_num _
  obtain ⟨k, hke⟩ : ∃ k, c.key = k := ⟨_, rfl⟩
  obtain ⟨v, hve⟩ : ∃ v, c.val = v := ⟨_, rfl⟩
  obtain ⟨r2, hr2⟩ : ∃ r, four v.length ++ v ++ t = r := ⟨_, rfl⟩
  obtain ⟨r1, hr1⟩ : ∃ r, four k.length ++ k ++ r2 = r := ⟨_, rfl⟩
  rw [hke] at hk
  rw [hve] at hv
  have t2 : txtL r2 = some (v, t) := by rw [← hr2]; exact txt_four v t hv
  have t1 : txtL r1 = some (k, r2) := by rw [← hr1]; exact txt_four k r2 hk
  have e : recOne c ++ t = four n ++ r1 := by
    unfold recOne
    rw [hn, hke, hve, ← hr1, ← hr2]
    simp only [List.append_assoc]
  have hd : (four n ++ r1).drop 4 = r1 := List.drop_left' (four_len _)
  rw [e, chgL_eq (four n ++ r1) (by rw [List.length_append, four_len]; omega) k v r2 t (by rw [hd]; exact t1) t2, num4_four n r1 hn4, hg]
  unfold Ch.norm
  rw [hke, hve]
theorem chgsL_succ (n : Nat) (r : List UInt8) : chgsL (n + 1) r = match chgL r with
    | none => none
    | some (c, r2) => match chgsL n r2 with
      | none => none
      | some l => some (c :: l) := rfl
theorem chgs_all : ∀ (l : List Ch) (t : List UInt8), (∀ c ∈ l, c.key.length < 4294967296 ∧ c.val.length < 4294967296) → chgsL l.length (recAll l ++ t) = some (l.map Ch.norm)
  | [], _, _ => rfl
  | c :: l, t, h => by
    have hc := h c (List.mem_cons_self ..)
    have ih := chgs_all l t fun x hx => h x (List.mem_cons_of_mem _ hx)
    rw [List.length_cons, chgsL_succ, recAll_cons, List.append_assoc, chg_one c _ hc.1 hc.2]
    dsimp only
    rw [ih]
    rfl
theorem norm_rec (c : Ch) : recOne c.norm = recOne c := by
  unfold recOne Ch.norm
  have : Ch.val ⟨c.key, c.val, c.gone⟩ = c.val := by
    unfold Ch.val
    cases c.gone <;> rfl
  rw [this]
theorem norm_recL (l : List Ch) : recL (l.map Ch.norm) = recL l := by
  unfold recL recAll
  rw [List.length_map, List.map_map]
  congr 2
  exact List.map_congr_left fun c _ => norm_rec c
/-- a record is read again -/
theorem changes_rec (l : List Ch) (hl : l.length < 4294967296) (h : ∀ c ∈ l, c.key.length < 4294967296 ∧ c.val.length < 4294967296) : changesL (recL l) = some (l.map Ch.norm) := by
  have hn : num4 (recL l) = l.length := by unfold recL; exact num4_four _ _ hl
  have hd : (recL l).drop 4 = recAll l := by unfold recL; exact List.drop_left' (four_len _)
  unfold changesL
  rw [if_pos (by unfold recL; simp only [List.length_append, four_len]; omega), hn, hd]
  have := chgs_all l [] h
  rw [List.append_nil] at this
  rw [this]
  dsimp only
  rw [if_pos (norm_recL l)]
theorem turn1_norm (rows : RowL) (c : Ch) : turn1 rows c.norm = turn1 rows c := by
  unfold turn1 Ch.norm Ch.val
  cases c.gone with
  | true =>
    show insL c.key [] true rows = insL c.key c.value true rows
    rw [insL_placed, insL_placed]
  | false => rfl
theorem turnL_norm : ∀ (l : List Ch) (rows : RowL), turnL rows (l.map Ch.norm) = turnL rows l
  | [], _ => rfl
  | c :: l, rows => by
    rw [List.map_cons, turnL_cons, turnL_cons, turn1_norm, turnL_norm l]
theorem recAll_mem : ∀ (l : List Ch) (c : Ch), c ∈ l → (recOne c).length ≤ (recAll l).length
  | x :: l, c, h => by
    rw [recAll_cons, List.length_append]
    rcases List.mem_cons.1 h with rfl | h
    · omega
    · have := recAll_mem l c h; omega
theorem recAll_len : ∀ (l : List Ch), l.length ≤ (recAll l).length
  | [] => Nat.zero_le _
  | c :: l => by
    have := recAll_len l
    rw [recAll_cons, List.length_append, List.length_cons, recOne_len]; omega
theorem recL_len (l : List Ch) : (recL l).length = 4 + (recAll l).length := by unfold recL; rw [List.length_append, four_len]
/-- a record that is not too long is read again -/
theorem changes_small (l : List Ch) (h : (recL l).length ≤ 1000000) : changesL (recL l) = some (l.map Ch.norm) := by
  rw [recL_len] at h
  refine changes_rec l (by have := recAll_len l; omega) fun c hc => ?_
  have h1 := recAll_mem l c hc
  rw [recOne_len] at h1
  omega
/-- all rows behind nothing are those rows -/
theorem turn_all : ∀ (rows : RowL), Rising rows → turnL [] (allR rows) = rows := fun rows h => by
  refine rising_ext _ _ (turnL_rising _ trivial) h fun x => ?_
  have gen : ∀ (rs acc : RowL), Rising rs → getR (turnL acc (allR rs)) x = (match getR rs x with | some v => some v | none => getR acc x) := fun rs => by
    induction rs with
    | nil => intro acc _; rfl
    | cons r rs ih =>
      intro acc hr
      show getR (turnL (turn1 acc ⟨r.1, r.2, false⟩) (allR rs)) x = _
      rw [ih _ hr.2, getR_turn]
      show (match getR rs x with | some v => some v | none => if x = r.1 then some r.2 else getR acc x) = (match (if r.1 = x then some r.2 else getR rs x) with | some v => some v | none => getR acc x)
      by_cases hx : r.1 = x
      · have hn : getR rs x = none := by
          have h1 : ∀ y ∈ rs, bytesLess' x y.1 = true := fun y hy => by subst hx; exact hr.1 y hy
          exact getR_none_of h1
        rw [hn, if_pos hx, if_pos hx.symm]
      · rw [if_neg hx, if_neg (fun e => hx e.symm)]
  rw [gen rows [] h]
  cases getR rows x <;> rfl
end Go.Proofs.YtkbjpgfdmkmbmaaGreatDoor
namespace Go.Proofs.YtkbjpgfdmkmbmaaGreatDoor
set_option linter.unusedVariables false
set_option linter.unusedSimpArgs false

theorem four_front : ∀ r : List UInt8, 4 ≤ r.length → four (num4 r) ++ r.drop 4 = r
  | [], h => by simp at h
  | [_], h => by simp at h
  | [_, _], h => by simp at h
  | [_, _, _], h => by simp at h
  | a :: b :: c :: d :: t, _ => by
    have e : four (num4 (a :: b :: c :: d :: t)) = [a, b, c, d] := by
      have ha := a.toNat_lt; have hb := b.toNat_lt; have hc := c.toNat_lt; have hd := d.toNat_lt
      unfold four num4 b4
      simp only [List.getD_cons_zero, List.getD_cons_succ]
      have ex : ∀ (x : UInt8) (n : Nat), n % 256 = x.toNat → UInt8.ofNat n = x := fun x n hn => by
        apply UInt8.toNat_inj.1
        rw [UInt8.toNat_ofNat']
        exact hn
      rw [ex a _ (by omega), ex b _ (by omega), ex c _ (by omega), ex d _ (by omega)]
    rw [e]
    rfl
theorem txtL_inv {r k r2 : List UInt8} (h : txtL r = some (k, r2)) : four k.length ++ k ++ r2 = r ∧ k.length < 4294967296 ∧ r2.length ≤ r.length := by
  unfold txtL at h
  split at h
  · rename_i hc
    injection h with h
    injection h with h1 h2
    have hk : k.length = num4 r := by
      rw [← h1, List.length_take, List.length_drop]; omega
    refine ⟨?_, by rw [hk]; exact num4_lt r, by rw [← h2, List.length_drop]; omega⟩
    have h4 := four_front r hc.1
    have hd : r.drop 4 = k ++ r2 := by
      rw [← h1, ← h2, ← List.drop_drop, List.take_append_drop]
    rw [hk, List.append_assoc, ← hd]
    exact h4
  · cases h
/-- a change ahead of a rest, as the code reads it -/
def chgC (r : List UInt8) : Option (Ch × List UInt8) := match chgL r with
  | none => none
  | some (c, r2) => if num4 r ≤ 1 ∧ (num4 r = 1 → c.value = []) then some (c, r2) else none
theorem chgC_eq {r r2 : List UInt8} {c : Ch} (h : chgL r = some (c, r2)) : chgC r = if num4 r ≤ 1 ∧ (num4 r = 1 → c.value = []) then some (c, r2) else none := by
  unfold chgC
  rw [h]
def chgsC : Nat → List UInt8 → Option (List Ch × List UInt8)
  | 0, r => some ([], r)
  | n + 1, r => match chgC r with
    | none => none
    | some (c, r2) => match chgsC n r2 with
      | none => none
      | some (l, r3) => some (c :: l, r3)
def readC (b : List UInt8) : Option (List Ch) := if 4 ≤ b.length then
    match chgsC (num4 b) (b.drop 4) with
    | some (l, []) => some l
    | _ => none
  else none
theorem chgsC_succ (n : Nat) (r : List UInt8) : chgsC (n + 1) r = match chgC r with
    | none => none
    | some (c, r2) => match chgsC n r2 with
      | none => none
      | some (l, r3) => some (c :: l, r3) := rfl
theorem chgL_inv {r r2 : List UInt8} {c : Ch} (h : chgL r = some (c, r2)) : 4 ≤ r.length ∧ c.gone = decide (num4 r = 1) ∧ four (num4 r) ++ (four c.key.length ++ c.key ++ (four c.value.length ++ c.value ++ r2)) = r ∧ r2.length < r.length := by
  unfold chgL at h
  split at h
  · rename_i h4
    cases h1 : txtL (r.drop 4) with
    | none => rw [h1] at h; cases h
    | some x =>
      obtain ⟨k, ra⟩ := x
      rw [h1] at h
      dsimp only at h
      cases h2 : txtL ra with
      | none => rw [h2] at h; cases h
      | some y =>
        obtain ⟨v, rb⟩ := y
        rw [h2] at h
        dsimp only at h
        injection h with h
        injection h with hc hr
        subst hc; subst hr
        have i1 := txtL_inv h1
        have i2 := txtL_inv h2
        refine ⟨h4, rfl, ?_, ?_⟩
        · show four (num4 r) ++ (four k.length ++ k ++ (four v.length ++ v ++ rb)) = r
          rw [i2.1, i1.1]
          exact four_front r h4
        · have := i1.2.2; have := i2.2.2
          rw [List.length_drop] at *
          omega
  · cases h
theorem chgC_inv {r r2 : List UInt8} {c : Ch} (h : chgC r = some (c, r2)) : chgL r = some (c, r2) ∧ recOne c ++ r2 = r ∧ r2.length < r.length := by
  unfold chgC at h
  cases hc : chgL r with
  | none => rw [hc] at h; cases h
  | some x =>
    obtain ⟨c', r'⟩ := x
    rw [hc] at h
    dsimp only at h
    split at h
    · rename_i hk
      injection h with h
      injection h with h1 h2
      subst h1; subst h2
      obtain ⟨h4, hg, he, hl⟩ := chgL_inv hc
      refine ⟨rfl, ?_, hl⟩
      have hv : c'.val = c'.value := by
        unfold Ch.val
        rw [hg]
        by_cases h1 : num4 r = 1
        · rw [if_pos (by simp [h1]), hk.2 h1]
        · rw [if_neg (by simp [h1])]
      have hn : (if c'.gone = true then 1 else 0) = num4 r := by
        rw [hg]
        by_cases h1 : num4 r = 1
        · simp [h1]
        · have := hk.1
          simp [h1]; omega
      unfold recOne
      rw [hv, hn]
      simp only [List.append_assoc] at he ⊢
      exact he
    · cases h
theorem chgsC_inv : ∀ (n : Nat) (r : List UInt8) (l : List Ch) (r2 : List UInt8), chgsC n r = some (l, r2) → chgsL n r = some l ∧ recAll l ++ r2 = r ∧ l.length = n
  | 0, r, l, r2, h => by
    have h : some (([] : List Ch), r) = some (l, r2) := h
    injection h with h
    injection h with h1 h2
    subst h1; subst h2
    exact ⟨rfl, rfl, rfl⟩
  | n + 1, r, l, r2, h => by
    rw [chgsC_succ] at h
    cases ho : chgC r with
    | none => rw [ho] at h; cases h
    | some x =>
      obtain ⟨c, ra⟩ := x
      rw [ho] at h
      dsimp only at h
      cases hs : chgsC n ra with
      | none => rw [hs] at h; cases h
      | some y =>
        obtain ⟨m, rb⟩ := y
        rw [hs] at h
        dsimp only at h
        injection h with h
        injection h with h1 h2
        subst h1; subst h2
        obtain ⟨i1, i2, -⟩ := chgC_inv ho
        obtain ⟨j1, j2, j3⟩ := chgsC_inv n ra m rb hs
        refine ⟨?_, ?_, by rw [List.length_cons, j3]⟩
        · rw [chgsL_succ, i1]
          dsimp only
          rw [j1]
        · rw [recAll_cons, List.append_assoc, j2, i2]
theorem one_one (c : Ch) (t : List UInt8) (hk : c.key.length < 4294967296) (hv : c.val.length < 4294967296) : chgC (recOne c ++ t) = some (c.norm, t) := by
  obtain ⟨n, hn⟩ : ∃ n, (if c.gone = true then 1 else 0) = n := ⟨_, rfl⟩
  have hn4 : n < 4294967296 := by rw [← hn]; exact gone_lt _
  have hn1 : n ≤ 1 := by rw [← hn]; split <;> omega
  obtain ⟨r1, hr1⟩ : ∃ r1, recOne c ++ t = four n ++ r1 := ⟨four c.key.length ++ c.key ++ four c.val.length ++ c.val ++ t, by
    unfold recOne
    rw [hn]
    simp only [List.append_assoc]⟩
  have h1 : num4 (recOne c ++ t) = n := by rw [hr1]; exact num4_four n r1 hn4
  have h2 : n = 1 → c.norm.value = [] := fun h => by
    show c.val = []
    unfold Ch.val
    cases hg : c.gone with
    | true => rfl
    | false => rw [hg, if_neg Bool.false_ne_true] at hn; rw [← hn] at h; cases h
  have h3 := chg_one c t hk hv
  generalize recOne c ++ t = r at h1 h3 ⊢
  rw [chgC_eq h3]
  exact if_pos ⟨by rw [h1]; exact hn1, fun h => h2 (by rw [← h1]; exact h)⟩
theorem ones_all : ∀ (l : List Ch) (t : List UInt8), (∀ c ∈ l, c.key.length < 4294967296 ∧ c.val.length < 4294967296) → chgsC l.length (recAll l ++ t) = some (l.map Ch.norm, t)
  | [], _, _ => rfl
  | c :: l, t, h => by
    have hc := h c (List.mem_cons_self ..)
    have ih := ones_all l t fun x hx => h x (List.mem_cons_of_mem _ hx)
    rw [List.length_cons, chgsC_succ, recAll_cons, List.append_assoc, one_one c _ hc.1 hc.2]
    dsimp only
    rw [ih]
    rfl
/-- the code's reading is the record's -/
theorem read_changes (b : List UInt8) (hb : b.length ≤ 1000000) : readC b = changesL b := by
  by_cases h4 : 4 ≤ b.length
  · have hr : ∀ l, readC b = some l → changesL b = some l := fun l h => by
      unfold readC at h
      rw [if_pos h4] at h
      cases ho : chgsC (num4 b) (b.drop 4) with
      | none => rw [ho] at h; cases h
      | some x =>
        obtain ⟨m, r⟩ := x
        rw [ho] at h
        cases r with
        | cons y ys => cases h
        | nil =>
          injection h with h
          subst h
          obtain ⟨i1, i2, i3⟩ := chgsC_inv _ _ _ _ ho
          unfold changesL
          rw [if_pos h4, i1]
          dsimp only
          rw [if_pos]
          unfold recL
          rw [i3]
          rw [List.append_nil] at i2
          rw [i2]
          exact four_front b h4
    have hc : ∀ l, changesL b = some l → readC b = some l := fun l h => by
      have h0 := h
      unfold changesL at h
      rw [if_pos h4] at h
      cases ho : chgsL (num4 b) (b.drop 4) with
      | none => rw [ho] at h; cases h
      | some m =>
        rw [ho] at h
        dsimp only at h
        split at h
        · rename_i he
          injection h with h
          subst h
          have hs : (recL m).length ≤ 1000000 := by rw [he]; exact hb
          have hsm := changes_small m hs
          rw [he, h0] at hsm
          injection hsm with hsm
          have hl := recL_len m
          have hall := recAll_len m
          have hn : num4 b = m.length := by
            rw [← he]; unfold recL; exact num4_four _ _ (by omega)
          have hd : b.drop 4 = recAll m := by
            rw [← he]; unfold recL; exact List.drop_left' (four_len _)
          have := ones_all m [] fun c hc => by
            have h1 := recAll_mem m c hc
            rw [recOne_len] at h1
            omega
          rw [List.append_nil] at this
          unfold readC
          rw [if_pos h4, hn, hd, this]
          show some (m.map Ch.norm) = _
          rw [← hsm]
        · cases h
    cases hx : changesL b with
    | some l => exact hc l hx
    | none =>
      cases hy : readC b with
      | none => rfl
      | some l => rw [hr l hy] at hx; cases hx
  · unfold readC changesL
    rw [if_neg h4, if_neg h4]
end Go.Proofs.YtkbjpgfdmkmbmaaGreatDoor
namespace Go.Proofs.YtkbjpgfdmkmbmaaGreatDoor
open Go.RowKit
set_option linter.unusedVariables false
set_option linter.unusedSimpArgs false

def tv (l : List UInt8) : Value := .string ⟨l.toArray⟩
/-- a slice that reads as these texts -/
def RdT (w : World) (v : Value) (l : List (List UInt8)) : Prop :=
  ∃ A c, v = .slice A l.length c ∧ l.length ≤ c ∧ ∀ k x, l[k]? = some x → ∃ g o, A = some ⟨g, o, none⟩ ∧ g < w.heap.size ∧ w.cell? ⟨g, o + k, none⟩ = some (tv x)
theorem RdT.below {w w' : World} {v : Value} {l : List (List UInt8)} (h : RdT w v l) (hb : Below w.heap.size w w') : RdT w' v l := by
  obtain ⟨A, c, rfl, hc, h⟩ := h
  refine ⟨A, c, rfl, hc, fun k r hk => ?_⟩
  obtain ⟨g, o, rfl, hg, h1⟩ := h k r hk
  exact ⟨g, o, rfl, Nat.lt_of_lt_of_le hg hb.size, (World.cell?_of_block (hb.block g hg)).trans h1⟩
theorem rdt_form {w : World} {v : Value} {l : List (List UInt8)} (h : RdT w v l) : ∃ A c, v = .slice A l.length c := by
  obtain ⟨A, c, rfl, _⟩ := h
  exact ⟨A, c, rfl⟩
theorem RdT.at {w : World} {A : Option Addr} {c n : Nat} {l : List (List UInt8)} (h : RdT w (.slice A n c) l) (k : Nat) (hk : k < l.length) : ∃ g o, A = some ⟨g, o, none⟩ ∧ g < w.heap.size ∧ w.cell? ⟨g, o + k, none⟩ = some (tv l[k]) := by
  obtain ⟨A', c', e, hc, hA⟩ := h
  cases e
  exact hA k _ (List.getElem?_eq_getElem hk)
/-- two texts are not the same -/
theorem str_neq (x y : ByteArray) (a b : List UInt8) (hx : x = ⟨a.toArray⟩) (hy : y = ⟨b.toArray⟩) : (!x.toList == y.toList) = !decide (a = b) := by
  rw [hx, hy, ByteArray.toList_eq, ByteArray.toList_eq]
  show (!a == b) = _
  by_cases h : a = b <;> simp [h]
theorem take_eq_step {α : Type} {a b : List α} {k : Nat} (h : a.take k = b.take k) (ha : k < a.length) (hb : k < b.length) (he : a[k] = b[k]) : a.take (k + 1) = b.take (k + 1) := by
  rw [List.take_succ_eq_append_getElem ha, List.take_succ_eq_append_getElem hb, h, he]
theorem Tryz.infoStrK : (Tryz.prog.info? 9).map (fun i => (i.zero, i.size, i.bytes)) = some (some (.string ⟨#[]⟩), 1, 16) := by kernel_rfl
def tcells (l : List (List UInt8)) : List Value := l.map tv
theorem tcells_app (a b : List (List UInt8)) : tcells (a ++ b) = tcells a ++ tcells b := by simp [tcells]
/-- texts of the call's own -/
def TRow (w : World) (B : Nat) (v : Value) (l : List (List UInt8)) : Prop := w.ownsRow B 9 1 v l.length (tcells l)
theorem TRow.cut {w : World} {B n : Nat} {v : Value} {l : List (List UInt8)} {xs : List Value} (h : w.ownsRow B 9 1 v n xs) (hn : n = l.length) (hx : xs = tcells l) : TRow w B v l := by subst hn; subst hx; exact h
theorem TRow.rd {w : World} {B : Nat} {v : Value} {l : List (List UInt8)} (h : TRow w B v l) : RdT w v l := by
  have hc := fun g => World.ownsRow.cells (g := g) h
  rcases h.2 with ⟨rfl, h0⟩ | ⟨g, cap, cur, rfl, hB, hg, h4, h5, _⟩
  · obtain rfl := List.length_eq_zero_iff.1 h0
    exact ⟨none, 0, rfl, Nat.le_refl _, fun k l hk => by simp only [List.getElem?_nil] at hk; cases hk⟩
  · refine ⟨_, cap, rfl, h4, fun k x hk => ⟨g, 0, rfl, (Array.getElem?_eq_some_iff.1 hg).1, ?_⟩⟩
    have := hc g rfl k (tv x) (by unfold tcells; rw [List.getElem?_map, hk]; rfl)
    rwa [Addr.add_lit] at this
/-- a row of texts that has just been made -/
theorem rdt_new {W : World} {R : Nat} {C : Array Value} {t : TypeId} {fr : Nat × Nat} {l : List (List UInt8)} (h : W.heap[R]? = some (.cells C t fr)) (hC : C.toList = tcells l) : RdT W (.slice (some ⟨R, 0, none⟩) l.length l.length) l :=
  ⟨_, _, rfl, Nat.le_refl _, fun k x hk => ⟨R, 0, rfl, (Array.getElem?_eq_some_iff.1 h).1, by
    rw [Nat.zero_add, cell_here h]
    have : C.toList[k]? = some (tv x) := by rw [hC]; unfold tcells; rw [List.getElem?_map, hk]; rfl
    simpa using this⟩⟩
end Go.Proofs.YtkbjpgfdmkmbmaaGreatDoor
namespace Go.Proofs.YtkbjpgfdmkmbmaaGreatDoor
open Go.RowKit
set_option linter.unusedVariables false
set_option linter.unusedSimpArgs false

def qcells (l : RowL) : List Value := l.flatMap fun r => [tv r.1, tv r.2]
theorem qcells_nil : qcells [] = [] := rfl
theorem qcells_cons (r : List UInt8 × List UInt8) (l : RowL) : qcells (r :: l) = tv r.1 :: tv r.2 :: qcells l := rfl
theorem qcells_app (a b : RowL) : qcells (a ++ b) = qcells a ++ qcells b := by simp [qcells]
theorem qcells_len : ∀ (l : RowL), (qcells l).length = l.length * 2
  | [] => rfl
  | r :: l => by rw [qcells_cons]; simp only [List.length_cons, qcells_len l]; omega
theorem qcells_one : ∀ (l : RowL), ∀ u ∈ qcells l, u.oneCell' = true
  | [], u, hu => by cases hu
  | r :: l, u, hu => by
    rw [qcells_cons] at hu
    simp only [List.mem_cons] at hu
    rcases hu with rfl | rfl | hu
    · rfl
    · rfl
    · exact qcells_one l u hu
theorem qcells_at : ∀ (l : RowL) (k : Nat) (r : List UInt8 × List UInt8), l[k]? = some r → (qcells l)[k * 2]? = some (tv r.1) ∧ (qcells l)[k * 2 + 1]? = some (tv r.2)
  | [], k, r, h => by simp at h
  | x :: l, 0, r, h => by
    simp at h; subst h; exact ⟨rfl, rfl⟩
  | x :: l, k + 1, r, h => by
    have := qcells_at l k r (by simpa using h)
    rw [qcells_cons, Nat.succ_mul]
    exact this
/-- a slice that reads as these rows -/
def RdR (w : World) (v : Value) (l : RowL) : Prop :=
  ∃ A c, v = .slice A l.length c ∧ l.length ≤ c ∧ (A = none → c = 0) ∧ ∀ k r, l[k]? = some r → ∃ g o, A = some ⟨g, o, none⟩ ∧ g < w.heap.size ∧ w.cell? ⟨g, o + k * 2, none⟩ = some (tv r.1) ∧ w.cell? ⟨g, o + k * 2 + 1, none⟩ = some (tv r.2)
theorem RdR.keep {w w' : World} {v : Value} {l : RowL} (h : RdR w v l) (hs : w.heap.size ≤ w'.heap.size) (hb : ∀ g, v.ownBlock = some g → w'.heap[g]? = w.heap[g]?) : RdR w' v l := by
  obtain ⟨A, c, rfl, hc, hz, h⟩ := h
  refine ⟨A, c, rfl, hc, hz, fun k r hk => ?_⟩
  obtain ⟨g, o, rfl, hg, h1, h2⟩ := h k r hk
  have he := hb g rfl
  exact ⟨g, o, rfl, Nat.lt_of_lt_of_le hg hs, (World.cell?_of_block he).trans h1, (World.cell?_of_block he).trans h2⟩
theorem RdR.cells {w : World} {A : Option Addr} {c : Nat} {l : RowL} (h : RdR w (.slice A l.length c) l) : (l.length = 0) ∨ ∃ g o, A = some ⟨g, o, none⟩ ∧ g < w.heap.size ∧ ∀ j u, (qcells l)[j]? = some u → w.cell? ((⟨g, o, none⟩ : Addr).add j) = some u := by
  obtain ⟨A', c', e, hc, hz, hA⟩ := h
  cases e
  rcases Nat.eq_zero_or_pos l.length with h0 | h0
  · exact .inl h0
  · obtain ⟨g, o, rfl, hg, _⟩ := hA 0 _ (List.getElem?_eq_getElem h0)
    refine .inr ⟨g, o, rfl, hg, fun j u hu => ?_⟩
    have hj : j < l.length * 2 := by
      have := (List.getElem?_eq_some_iff.1 hu).1
      rwa [qcells_len] at this
    have hk : j / 2 < l.length := by omega
    obtain ⟨g', o', e, _, h1, h2⟩ := hA (j / 2) _ (List.getElem?_eq_getElem hk)
    injection e with e; injection e with e1 e2
    subst e1; subst e2
    obtain ⟨q1, q2⟩ := qcells_at l (j / 2) _ (List.getElem?_eq_getElem hk)
    rw [Addr.add_lit]
    rcases (show j = j / 2 * 2 ∨ j = j / 2 * 2 + 1 by omega) with e | e
    · rw [e] at hu ⊢
      rw [q1] at hu
      cases hu; exact h1
    · rw [e] at hu ⊢
      rw [q2] at hu
      cases hu; rw [← Nat.add_assoc]; exact h2
/-- rows of the call's own -/
def QRow (w : World) (B : Nat) (e : TypeId) (v : Value) (l : RowL) : Prop := w.ownsRow B e 2 v l.length (qcells l)
theorem QRow.cut {w : World} {B n : Nat} {e : TypeId} {v : Value} {l : RowL} {xs : List Value} (h : w.ownsRow B e 2 v n xs) (hn : n = l.length) (hx : xs = qcells l) : QRow w B e v l := by subst hn; subst hx; exact h
theorem QRow.rd {w : World} {B : Nat} {e : TypeId} {v : Value} {l : RowL} (h : QRow w B e v l) : RdR w v l := by
  have hc := fun g => World.ownsRow.cells (g := g) h
  rcases h.2 with ⟨rfl, h0⟩ | ⟨g, cap, cur, rfl, hB, hg, h4, h5, _⟩
  · obtain rfl := List.length_eq_zero_iff.1 h0
    exact ⟨none, 0, rfl, Nat.le_refl _, fun _ => rfl, fun k l hk => by simp only [List.getElem?_nil] at hk; cases hk⟩
  · refine ⟨_, cap, rfl, h4, fun e => (by cases e), fun k r hk => ⟨g, 0, rfl, (Array.getElem?_eq_some_iff.1 hg).1, ?_, ?_⟩⟩
    · have := hc g rfl (k * 2) _ (qcells_at l k r hk).1
      rwa [Addr.add_lit] at this
    · have := hc g rfl (k * 2 + 1) _ (qcells_at l k r hk).2
      rwa [Addr.add_lit, ← Nat.add_assoc] at this
theorem RdR.below {w w' : World} {v : Value} {l : RowL} (h : RdR w v l) (hb : Below w.heap.size w w') : RdR w' v l := by
  obtain ⟨A, c, rfl, hc, hz, h⟩ := h
  refine ⟨A, c, rfl, hc, hz, fun k r hk => ?_⟩
  obtain ⟨g, o, rfl, hg, h1, h2⟩ := h k r hk
  exact ⟨g, o, rfl, Nat.lt_of_lt_of_le hg hb.size, (World.cell?_of_block (hb.block g hg)).trans h1, (World.cell?_of_block (hb.block g hg)).trans h2⟩
/-- a slice that reads as these changes -/
def RdC (w : World) (v : Value) (l : List Ch) : Prop :=
  ∃ A c, v = .slice A l.length c ∧ l.length ≤ c ∧ ∀ k x, l[k]? = some x → ∃ g o, A = some ⟨g, o, none⟩ ∧ g < w.heap.size ∧ w.cell? ⟨g, o + k * 3, none⟩ = some (tv x.key) ∧ w.cell? ⟨g, o + k * 3 + 1, none⟩ = some (tv x.value) ∧ w.cell? ⟨g, o + k * 3 + 2, none⟩ = some (.bool x.gone)
theorem RdC.below {w w' : World} {v : Value} {l : List Ch} (h : RdC w v l) (hb : Below w.heap.size w w') : RdC w' v l := by
  obtain ⟨A, c, rfl, hc, h⟩ := h
  refine ⟨A, c, rfl, hc, fun k r hk => ?_⟩
  obtain ⟨g, o, rfl, hg, h1, h2, h3⟩ := h k r hk
  have he := hb.block g hg
  exact ⟨g, o, rfl, Nat.lt_of_lt_of_le hg hb.size, (World.cell?_of_block he).trans h1, (World.cell?_of_block he).trans h2, (World.cell?_of_block he).trans h3⟩
theorem RdC.at {w : World} {A : Option Addr} {c n : Nat} {l : List Ch} (h : RdC w (.slice A n c) l) (k : Nat) (hk : k < l.length) : ∃ g o, A = some ⟨g, o, none⟩ ∧ g < w.heap.size ∧ w.cell? ⟨g, o + k * 3, none⟩ = some (tv l[k].key) ∧ w.cell? ⟨g, o + k * 3 + 1, none⟩ = some (tv l[k].value) ∧ w.cell? ⟨g, o + k * 3 + 2, none⟩ = some (.bool l[k].gone) := by
  obtain ⟨A', c', e, hc, hA⟩ := h
  cases e
  exact hA k _ (List.getElem?_eq_getElem hk)
theorem RdR.nil0 {w : World} {c n : Nat} {l : RowL} (h : RdR w (.slice none n c) l) : c = 0 := by
  obtain ⟨A', c', e, hc, hz, hA⟩ := h
  cases e
  exact hz rfl
theorem RdR.at {w : World} {A : Option Addr} {c n : Nat} {l : RowL} (h : RdR w (.slice A n c) l) (k : Nat) (hk : k < l.length) : ∃ g o, A = some ⟨g, o, none⟩ ∧ g < w.heap.size ∧ w.cell? ⟨g, o + k * 2, none⟩ = some (tv l[k].1) ∧ w.cell? ⟨g, o + k * 2 + 1, none⟩ = some (tv l[k].2) := by
  obtain ⟨A', c', e, hc, hz, hA⟩ := h
  cases e
  exact hA k _ (List.getElem?_eq_getElem hk)
def ccells (l : List Ch) : List Value := l.flatMap fun x => [tv x.key, tv x.value, .bool x.gone]
theorem ccells_app (a b : List Ch) : ccells (a ++ b) = ccells a ++ ccells b := by simp [ccells]
theorem ccells_cons (x : Ch) (l : List Ch) : ccells (x :: l) = tv x.key :: tv x.value :: .bool x.gone :: ccells l := rfl
theorem ccells_at : ∀ (l : List Ch) (k : Nat) (x : Ch), l[k]? = some x → (ccells l)[k * 3]? = some (tv x.key) ∧ (ccells l)[k * 3 + 1]? = some (tv x.value) ∧ (ccells l)[k * 3 + 2]? = some (.bool x.gone)
  | [], k, r, h => by simp at h
  | y :: l, 0, r, h => by
    simp at h; subst h; exact ⟨rfl, rfl, rfl⟩
  | y :: l, k + 1, r, h => by
    have := ccells_at l k r (by simpa using h)
    rw [ccells_cons, Nat.succ_mul]
    exact this
/-- changes of the call's own -/
def CRow (w : World) (B : Nat) (e : TypeId) (v : Value) (l : List Ch) : Prop := w.ownsRow B e 3 v l.length (ccells l)
theorem CRow.cut {w : World} {B n : Nat} {e : TypeId} {v : Value} {l : List Ch} {xs : List Value} (h : w.ownsRow B e 3 v n xs) (hn : n = l.length) (hx : xs = ccells l) : CRow w B e v l := by subst hn; subst hx; exact h
theorem CRow.rd {w : World} {B : Nat} {e : TypeId} {v : Value} {l : List Ch} (h : CRow w B e v l) : RdC w v l := by
  have hc := fun g => World.ownsRow.cells (g := g) h
  rcases h.2 with ⟨rfl, h0⟩ | ⟨g, cap, cur, rfl, hB, hg, h4, h5, _⟩
  · obtain rfl := List.length_eq_zero_iff.1 h0
    exact ⟨none, 0, rfl, Nat.le_refl _, fun k l hk => by simp only [List.getElem?_nil] at hk; cases hk⟩
  · refine ⟨_, cap, rfl, h4, fun k x hk => ⟨g, 0, rfl, (Array.getElem?_eq_some_iff.1 hg).1, ?_, ?_, ?_⟩⟩
    · have := hc g rfl (k * 3) _ (ccells_at l k x hk).1
      rwa [Addr.add_lit] at this
    · have := hc g rfl (k * 3 + 1) _ (ccells_at l k x hk).2.1
      rwa [Addr.add_lit, ← Nat.add_assoc] at this
    · have := hc g rfl (k * 3 + 2) _ (ccells_at l k x hk).2.2
      rwa [Addr.add_lit, ← Nat.add_assoc] at this
end Go.Proofs.YtkbjpgfdmkmbmaaGreatDoor
