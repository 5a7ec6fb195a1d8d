/- Frames as functions of lists: one, many one behind the other, cut off, turned. -/
import Derived.Test.YtdflghphjhejdaaDoorSha
namespace Go.Proofs.YtdflghphjhejdaaDoor

/-- a number in four bytes, the highest first -/
def four (n : Nat) : List UInt8 := [UInt8.ofNat (n / 16777216), UInt8.ofNat (n / 65536), UInt8.ofNat (n / 256), UInt8.ofNat n]
def b4 (l : List UInt8) (i : Nat) : Nat := (l.getD i 0).toNat
/-- the number in the first four -/
def num4 (l : List UInt8) : Nat := b4 l 0 * 16777216 + b4 l 1 * 65536 + b4 l 2 * 256 + b4 l 3
theorem four_len (n : Nat) : (four n).length = 4 := rfl
theorem num4_four (n : Nat) (t : List UInt8) (h : n < 4294967296) : num4 (four n ++ t) = n := by
  unfold num4 four b4
  simp only [List.cons_append, List.getD_cons_zero, List.getD_cons_succ, UInt8.toNat_ofNat']
  omega
theorem num4_lt (l : List UInt8) : num4 l < 4294967296 := by
  unfold num4 b4
  have h := fun i => (l.getD i 0).toNat_lt
  have := h 0; have := h 1; have := h 2; have := h 3
  omega
theorem num4_take (l : List UInt8) (k : Nat) (h : 4 ≤ k) : num4 (l.take k) = num4 l := by
  have e : ∀ i, i < 4 → b4 (l.take k) i = b4 l i := fun i hi => by
    unfold b4
    rw [List.getD_eq_getElem?_getD, List.getD_eq_getElem?_getD, List.getElem?_take, if_pos (by omega)]
  unfold num4
  rw [e 0 (by omega), e 1 (by omega), e 2 (by omega), e 3 (by omega)]
def markF (b : List UInt8) : List UInt8 := (sumL (four b.length ++ b)).take 4
theorem sum_len (l : List UInt8) : (sumL l).length = 32 := rfl
theorem markF_len (b : List UInt8) : (markF b).length = 4 := by unfold markF; rw [List.length_take, sum_len]; rfl
def frameL (b : List UInt8) : List UInt8 := four b.length ++ markF b ++ b
theorem frameL_len (b : List UInt8) : (frameL b).length = 8 + b.length := by
  unfold frameL
  rw [List.length_append, List.length_append, markF_len, four_len]
theorem frameL_drop (b : List UInt8) : (frameL b).drop 8 = b := by
  unfold frameL
  exact List.drop_left' (by rw [List.length_append, markF_len, four_len])
theorem num4_frame (b t : List UInt8) (h : b.length < 4294967296) : num4 (frameL b ++ t) = b.length := by
  unfold frameL
  rw [List.append_assoc, List.append_assoc]
  exact num4_four _ _ h
/-- how many bytes the frame at the front has in it -/
def firstL (l : List UInt8) : Option Nat :=
  if 8 ≤ l.length ∧ num4 l ≤ 32768 ∧ num4 l ≤ l.length - 8 ∧ frameL ((l.drop 8).take (num4 l)) = l.take (8 + num4 l) then some (num4 l) else none
theorem firstL_some {l : List UInt8} {n : Nat} (h : firstL l = some n) : 8 + n ≤ l.length ∧ n ≤ 32768 ∧ n = num4 l ∧ frameL ((l.drop 8).take n) = l.take (8 + n) := by
  unfold firstL at h
  split at h
  · rename_i hc
    obtain ⟨h1, h2, h3, h4⟩ := hc
    injection h with h
    subst h
    exact ⟨by omega, h2, rfl, h4⟩
  · cases h
def splitF : Nat → List UInt8 → List (List UInt8) × Nat
  | 0, _ => ([], 0)
  | f + 1, l => match firstL l with
    | none => ([], 0)
    | some n => ((l.drop 8).take n :: (splitF f (l.drop (8 + n))).1, 8 + n + (splitF f (l.drop (8 + n))).2)
theorem splitF_fuel : ∀ (f g : Nat) (l : List UInt8), l.length ≤ f → l.length ≤ g → splitF f l = splitF g l
  | 0, 0, _, _, _ => rfl
  | 0, g + 1, l, hf, _ => by
    have : firstL l = none := by
      cases h : firstL l with
      | none => rfl
      | some n => have := (firstL_some h).1; omega
    simp [splitF, this]
  | f + 1, 0, l, _, hg => by
    have : firstL l = none := by
      cases h : firstL l with
      | none => rfl
      | some n => have := (firstL_some h).1; omega
    simp [splitF, this]
  | f + 1, g + 1, l, hf, hg => by
    unfold splitF
    cases h : firstL l with
    | none => rfl
    | some n =>
      have := (firstL_some h).1
      dsimp only
      rw [splitF_fuel f g (l.drop (8 + n)) (by rw [List.length_drop]; omega) (by rw [List.length_drop]; omega)]
/-- what frames at the front have in them, and how many bytes they take -/
def splitL (l : List UInt8) : List (List UInt8) × Nat := splitF l.length l
theorem splitL_none {l : List UInt8} (h : firstL l = none) : splitL l = ([], 0) := by
  unfold splitL
  rw [splitF_fuel l.length (l.length + 1) l (Nat.le_refl _) (by omega)]
  unfold splitF
  rw [h]
theorem splitL_some {l : List UInt8} {n : Nat} (h : firstL l = some n) : splitL l = ((l.drop 8).take n :: (splitL (l.drop (8 + n))).1, 8 + n + (splitL (l.drop (8 + n))).2) := by
  have hs : splitL l = splitF (l.length + 1) l := splitF_fuel l.length (l.length + 1) l (Nat.le_refl _) (by omega)
  rw [hs]
  have h8 : splitF l.length (l.drop (8 + n)) = splitL (l.drop (8 + n)) := splitF_fuel _ _ _ (by rw [List.length_drop]; omega) (Nat.le_refl _)
  show (match firstL l with
    | none => ([], 0)
    | some n => ((l.drop 8).take n :: (splitF l.length (l.drop (8 + n))).1, 8 + n + (splitF l.length (l.drop (8 + n))).2)) = _
  rw [h]
  dsimp only
  rw [h8]
theorem splitF_few : ∀ (f : Nat) (l : List UInt8), (splitF f l).1.length ≤ l.length
  | 0, _ => Nat.zero_le _
  | f + 1, l => by
    unfold splitF
    cases h : firstL l with
    | none => exact Nat.zero_le _
    | some n =>
      have h1 := (firstL_some h).1
      have h2 := splitF_few f (l.drop (8 + n))
      rw [List.length_drop] at h2
      show (splitF f (l.drop (8 + n))).1.length + 1 ≤ _
      omega
theorem splitL_few (l : List UInt8) : (splitL l).1.length ≤ l.length := splitF_few _ _
theorem first_frame (b t : List UInt8) (h : b.length ≤ 32768) : firstL (frameL b ++ t) = some b.length := by
  have hn := num4_frame b t (by omega)
  have hl : (frameL b ++ t).length = 8 + b.length + t.length := by rw [List.length_append, frameL_len]
  have hd : ((frameL b ++ t).drop 8).take b.length = b := by
    rw [List.drop_append_of_le_length (by rw [frameL_len]; omega), frameL_drop, List.take_left' rfl]
  have ht : (frameL b ++ t).take (8 + b.length) = frameL b := List.take_left' (frameL_len b)
  unfold firstL
  rw [hn, hl, hd, ht, if_pos ⟨by omega, h, by omega, rfl⟩]
def framesL (ls : List (List UInt8)) : List UInt8 := (ls.map frameL).flatten
theorem framesL_nil : framesL [] = [] := rfl
theorem framesL_cons (b : List UInt8) (r : List (List UInt8)) : framesL (b :: r) = frameL b ++ framesL r := rfl
theorem framesL_snoc (r : List (List UInt8)) (b : List UInt8) : framesL (r ++ [b]) = framesL r ++ frameL b := by simp [framesL]
theorem framesL_app (r s : List (List UInt8)) : framesL (r ++ s) = framesL r ++ framesL s := by simp [framesL]
theorem split_frames (t : List UInt8) : ∀ (ls : List (List UInt8)), (∀ b ∈ ls, b.length ≤ 32768) → splitL (framesL ls ++ t) = (ls ++ (splitL t).1, (framesL ls).length + (splitL t).2)
  | [], _ => by simp [framesL_nil]
  | b :: r, h => by
    have hb := h b (List.mem_cons_self ..)
    have ih := split_frames t r (fun x hx => h x (List.mem_cons_of_mem _ hx))
    rw [framesL_cons, List.append_assoc, splitL_some (first_frame b _ hb)]
    have hd : (frameL b ++ (framesL r ++ t)).drop (8 + b.length) = framesL r ++ t := List.drop_left' (frameL_len b)
    have hd2 : ((frameL b ++ (framesL r ++ t)).drop 8).take b.length = b := by
      rw [List.drop_append_of_le_length (by rw [frameL_len]; omega), frameL_drop, List.take_left' rfl]
    rw [hd, hd2, ih]
    simp only [List.cons_append, List.length_append, frameL_len, Prod.mk.injEq, true_and]
    omega
theorem split_nil : splitL [] = ([], 0) := rfl
theorem split_whole (ls : List (List UInt8)) (h : ∀ b ∈ ls, b.length ≤ 32768) : splitL (framesL ls) = (ls, (framesL ls).length) := by
  have := split_frames [] ls h
  rw [List.append_nil, split_nil] at this
  rw [this]; simp
/-- a frame that is cut off is none -/
theorem first_cut (b : List UInt8) (k : Nat) (h : b.length ≤ 32768) (hk : k < 8 + b.length) : firstL ((frameL b).take k) = none := by
  cases hf : firstL ((frameL b).take k) with
  | none => rfl
  | some n =>
    have h1 := firstL_some hf
    have hl : ((frameL b).take k).length = k := by rw [List.length_take, frameL_len]; omega
    rw [hl] at h1
    have hn := num4_frame b [] (by omega)
    rw [List.append_nil] at hn
    rw [num4_take _ _ (by omega), hn] at h1
    omega
theorem split_cut (pre : List (List UInt8)) (x : List UInt8) (post : List (List UInt8)) (k : Nat) (h : ∀ b ∈ pre ++ x :: post, b.length ≤ 32768) (h1 : (framesL pre).length ≤ k) (h2 : k < (framesL (pre ++ [x])).length) :
    splitL ((framesL (pre ++ x :: post)).take k) = (pre, (framesL pre).length) := by
  have hx := h x (by simp)
  have hp : ∀ b ∈ pre, b.length ≤ 32768 := fun b hb => h b (by simp [hb])
  rw [framesL_snoc, List.length_append, frameL_len] at h2
  have e : (framesL (pre ++ x :: post)).take k = framesL pre ++ (frameL x).take (k - (framesL pre).length) := by
    rw [framesL_app, framesL_cons, List.take_append, List.take_of_length_le h1, List.take_append, show k - (framesL pre).length - (frameL x).length = 0 by rw [frameL_len]; omega]
    simp
  rw [e, split_frames _ pre hp, splitL_none (first_cut x _ hx (by omega))]
  simp
/-- a frame of which a byte is another one is not there -/
theorem turned_not (a x y : List UInt8) (hl : x.length = 8 + a.length) (hne : x ≠ frameL a) : (splitL (x ++ y)).1.head? ≠ some a := by
  cases hf : firstL (x ++ y) with
  | none => rw [splitL_none hf]; simp
  | some n =>
    rw [splitL_some hf]
    simp only [List.head?_cons, ne_eq, Option.some.injEq]
    intro he
    have h1 := firstL_some hf
    have hn : n = a.length := by
      rw [← he, List.length_take, List.length_drop]
      omega
    rw [he, hn] at h1
    have h4 := h1.2.2.2
    rw [List.take_left' hl] at h4
    exact hne h4.symm
end Go.Proofs.YtdflghphjhejdaaDoor
