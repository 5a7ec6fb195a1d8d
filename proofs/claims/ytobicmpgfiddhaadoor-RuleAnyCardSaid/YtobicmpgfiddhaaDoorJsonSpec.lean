/- JSON: one text only; how deep; what the document's Parse answers, as a function of lists. -/
import Derived.Test.YtobicmpgfiddhaaDoorJsonRead
namespace Go.Proofs.YtobicmpgfiddhaaDoor

theorem show_inj {v u : V} {d e : Nat} (hv : v.fits d = true) (hu : u.fits e = true) (h : v.show = u.show) : v = u := by
  have a := show_back v d (v.size + u.size) [] hv (by omega) rfl
  have b := show_back u e (v.size + u.size) [] hu (by omega) rfl
  rw [h, b] at a
  exact ((Prod.mk.injEq _ _ _ _).mp a).1.symm
theorem fits_mono : ∀ d, (∀ v : V, v.fits d = true → v.fits (d + 1) = true)
  | 0, v, h => by obtain ⟨k, n, t, l, ks⟩ := v; unfold V.fits at h; cases h
  | d + 1, v, h => by
    obtain ⟨k, n, t, l, ks⟩ := v
    unfold V.fits at h ⊢
    simp only [Bool.and_eq_true] at h ⊢
    refine ⟨h.1, ?_⟩
    have hl := h.2
    clear h
    induction l with
    | nil => unfold V.fitsAll; rfl
    | cons v r ih =>
      unfold V.fitsAll at hl ⊢
      simp only [Bool.and_eq_true] at hl ⊢
      exact ⟨fits_mono d v hl.1, ih hl.2⟩
theorem fits_le (v : V) {d e : Nat} (h : d ≤ e) (hv : v.fits d = true) : v.fits e = true := by
  induction h with
  | refl => exact hv
  | step _ ih => exact fits_mono _ v ih
theorem fitsAll_iff (l : List V) (d : Nat) : V.fitsAll l d = true ↔ ∀ v ∈ l, v.fits d = true := by
  induction l with
  | nil => unfold V.fitsAll; simp
  | cons v r ih => unfold V.fitsAll; simp [ih]
theorem itemsMore_mem (l : List V) : ∀ v ∈ l, v.show.length + 1 ≤ (V.itemsMore l).length := by
  induction l with
  | nil => intro v h; cases h
  | cons u r ih =>
    intro v h
    unfold V.itemsMore
    rw [List.length_cons, List.length_append]
    rcases List.mem_cons.1 h with rfl | h
    · omega
    · have := ih v h; omega
theorem pairsMore_mem (l : List V) : ∀ (ks : List (List UInt8)), ∀ v ∈ l, v.show.length + 1 ≤ (V.pairsMore l ks).length := by
  induction l with
  | nil => intro ks v h; cases h
  | cons u r ih =>
    intro ks v h
    unfold V.pairsMore
    rw [List.length_cons, List.length_append, List.length_cons, List.length_append]
    rcases List.mem_cons.1 h with rfl | h
    · omega
    · have := ih ks.tail v h; omega
theorem items_mem (l : List V) : ∀ v ∈ l, v.show.length ≤ (V.items l).length := by
  cases l with
  | nil => intro v h; cases h
  | cons u r =>
    intro v h
    unfold V.items
    rw [List.length_append]
    rcases List.mem_cons.1 h with rfl | h
    · omega
    · have := itemsMore_mem r v h; omega
theorem pairs_mem (l : List V) (ks : List (List UInt8)) : ∀ v ∈ l, v.show.length ≤ (V.pairs l ks).length := by
  cases l with
  | nil => intro v h; cases h
  | cons u r =>
    intro v h
    unfold V.pairs
    rw [List.length_append, List.length_cons, List.length_append]
    rcases List.mem_cons.1 h with rfl | h
    · omega
    · have := pairsMore_mem r ks.tail v h; omega
/-- what lies in a value has a shorter text -/
theorem show_mem {k n : Int} {t : List UInt8} {l : List V} {ks : List (List UInt8)} (h : headB k n t l.length ks = true) : ∀ v ∈ l, v.show.length + 2 ≤ (V.mk k n t l ks).show.length := by
  have H := head_says h
  intro v hv
  have hk : k = 5 ∨ k = 6 := by
    by_cases h5 : k = 5
    · exact Or.inl h5
    · by_cases h6 : k = 6
      · exact Or.inr h6
      · have := H.list h5 h6
        have := List.length_pos_of_mem hv
        omega
  rcases hk with rfl | rfl
  · have e : (V.mk 5 n t l ks).show = 91 :: (V.items l ++ [93]) := by unfold V.show; simp
    rw [e]
    have := items_mem l v hv
    simp; omega
  · have e : (V.mk 6 n t l ks).show = 123 :: (V.pairs l ks ++ [125]) := by unfold V.show; simp
    rw [e]
    have := pairs_mem l ks v hv
    simp; omega
/-- a value is no deeper than its text is long -/
theorem fits_len : ∀ (d : Nat) (v : V), v.fits d = true → v.fits v.show.length = true
  | 0, v, h => by obtain ⟨k, n, t, l, ks⟩ := v; unfold V.fits at h; cases h
  | d + 1, v, h => by
    have hp := show_pos v
    obtain ⟨m, hm⟩ : ∃ m, v.show.length = m + 1 := ⟨v.show.length - 1, by omega⟩
    obtain ⟨k, n, t, l, ks⟩ := v
    unfold V.fits at h
    simp only [Bool.and_eq_true] at h
    have hs := show_mem h.1
    rw [hm] at hs ⊢
    unfold V.fits
    simp only [Bool.and_eq_true]
    refine ⟨h.1, (fitsAll_iff l m).2 fun v hv => ?_⟩
    have h1 := fits_len d v ((fitsAll_iff l d).1 h.2 v hv)
    exact fits_le v (by have := hs v hv; omega) h1
theorem sizes_more (l : List V) (h : ∀ v ∈ l, v.size ≤ 2 * v.show.length) : V.sizes l ≤ 2 * (V.itemsMore l).length := by
  induction l with
  | nil => unfold V.sizes; omega
  | cons v r ih =>
    unfold V.sizes V.itemsMore
    rw [List.length_cons, List.length_append]
    have h1 := h v (by simp)
    have h2 := ih (fun u hu => h u (by simp [hu]))
    omega
theorem sizes_pairs (l : List V) : ∀ (ks : List (List UInt8)), (∀ v ∈ l, v.size ≤ 2 * v.show.length) → V.sizes l ≤ 2 * (V.pairsMore l ks).length := by
  induction l with
  | nil => intro ks _; unfold V.sizes; omega
  | cons v r ih =>
    intro ks h
    unfold V.sizes V.pairsMore
    rw [List.length_cons, List.length_append, List.length_cons, List.length_append]
    have h1 := h v (by simp)
    have h2 := ih ks.tail (fun u hu => h u (by simp [hu]))
    omega
theorem show_list (n : Int) (t : List UInt8) (l : List V) (ks : List (List UInt8)) : (V.mk 5 n t l ks).show = 91 :: (V.items l ++ [93]) := by unfold V.show; simp
theorem show_object (n : Int) (t : List UInt8) (l : List V) (ks : List (List UInt8)) : (V.mk 6 n t l ks).show = 123 :: (V.pairs l ks ++ [125]) := by unfold V.show; simp
theorem items_cons (v : V) (r : List V) : V.items (v :: r) = v.show ++ V.itemsMore r := by conv => lhs; unfold V.items
theorem pairs_cons (v : V) (r : List V) (ks : List (List UInt8)) : V.pairs (v :: r) ks = quoteJ (ks.headD []) ++ 58 :: (v.show ++ V.pairsMore r ks.tail) := by conv => lhs; unfold V.pairs
theorem size_show : ∀ (d : Nat) (v : V), v.fits d = true → v.size ≤ 2 * v.show.length
  | 0, v, h => by obtain ⟨k, n, t, l, ks⟩ := v; unfold V.fits at h; cases h
  | d + 1, v, h => by
    have hp := show_pos v
    obtain ⟨k, n, t, l, ks⟩ := v
    unfold V.fits at h
    simp only [Bool.and_eq_true] at h
    have H := head_says h.1
    have ih : ∀ v ∈ l, v.size ≤ 2 * v.show.length := fun v hv => size_show d v ((fitsAll_iff l d).1 h.2 v hv)
    have hsz : (V.mk k n t l ks).size = 2 + V.sizes l := by unfold V.size; rfl
    rw [hsz]
    rcases l with _ | ⟨v, r⟩
    · unfold V.sizes; omega
    · have hk : k = 5 ∨ k = 6 := by
        by_cases h5 : k = 5
        · exact Or.inl h5
        · by_cases h6 : k = 6
          · exact Or.inr h6
          · have := H.list h5 h6; simp at this
      unfold V.sizes
      have hv := ih v (by simp)
      rcases hk with rfl | rfl
      · have e : (V.mk 5 n t (v :: r) ks).show = 91 :: (v.show ++ V.itemsMore r ++ [93]) := by rw [show_list, items_cons]
        rw [e]
        have := sizes_more r (fun u hu => ih u (by simp [hu]))
        simp; omega
      · have e : (V.mk 6 n t (v :: r) ks).show = 123 :: (quoteJ (ks.headD []) ++ 58 :: (v.show ++ V.pairsMore r ks.tail) ++ [125]) := by rw [show_object, pairs_cons]
        rw [e]
        have := sizes_pairs r ks.tail (fun u hu => ih u (by simp [hu]))
        simp; omega

/-! ## what Parse answers -/
/-- the text of a good value, however deep -/
def TextOf (s : List UInt8) (v : V) : Prop := (∃ d, v.fits d = true) ∧ v.show = s
theorem TextOf.one {s : List UInt8} {v u : V} (h : TextOf s v) (h' : TextOf s u) : v = u := by
  obtain ⟨⟨d, hd⟩, hs⟩ := h
  obtain ⟨⟨e, he⟩, hs'⟩ := h'
  exact show_inj hd he (hs.trans hs'.symm)
/-- the value of which a text is the text -/
def readV (s : List UInt8) : Option V :=
  match valueT (2 * s.length + 2) s with
  | (v, n) => if n = s.length ∧ v.fits 5000 = true ∧ v.show = s then some v else none
theorem readV_some {s : List UInt8} {v : V} (h : readV s = some v) : TextOf s v := by
  unfold readV at h
  generalize valueT (2 * s.length + 2) s = x at h
  obtain ⟨u, n⟩ := x
  simp only at h
  split at h
  · rename_i hc
    injection h with h; subst h
    exact ⟨⟨5000, hc.2.1⟩, hc.2.2⟩
  · cases h
theorem readV_of {s : List UInt8} {v : V} (h : TextOf s v) (hs : s.length ≤ 4096) : readV s = some v := by
  obtain ⟨⟨d, hd⟩, rfl⟩ := h
  have hb := show_back v d (2 * v.show.length + 2) [] hd (by have := size_show d v hd; omega) rfl
  rw [List.append_nil] at hb
  unfold readV
  rw [hb]
  simp only
  rw [if_pos ⟨trivial, fits_le v (by omega) (fits_len d v hd), trivial⟩]
/-- Parse: the value, and the error's number -/
def parseV (s : List UInt8) : V × Int :=
  if 4096 < s.length then (V.zero, 3) else
    match readV s with
    | none => (V.zero, 2)
    | some v => if v.fits 8 then (v, 0) else (V.zero, 4)
end Go.Proofs.YtobicmpgfiddhaaDoor
