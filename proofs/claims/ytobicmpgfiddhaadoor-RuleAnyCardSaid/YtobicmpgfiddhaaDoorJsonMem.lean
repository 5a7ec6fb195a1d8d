/- JSON: how a value lies in memory. -/
import Derived.Test.YtobicmpgfiddhaaDoorBase
import Derived.Test.YtobicmpgfiddhaaDoorJsonSpec
namespace Go.Proofs.YtobicmpgfiddhaaDoor
open Go.RowKit

theorem sizes_cons (v : V) (r : List V) : V.sizes (v :: r) = 1 + v.size + V.sizes r := by conv => lhs; unfold V.sizes
theorem size_mk (k n : Int) (t : List UInt8) (l : List V) (ks : List (List UInt8)) : (V.mk k n t l ks).size = 2 + V.sizes l := by unfold V.size; rfl
theorem sizes_get : ∀ (l : List V) (i : Nat) (h : i < l.length), l[i].size < 1 + V.sizes l
  | [], i, h => absurd h (Nat.not_lt_zero _)
  | v :: r, 0, _ => by rw [sizes_cons]; show v.size < _; omega
  | v :: r, i + 1, h => by
    have hi : i < r.length := by simpa using h
    have := sizes_get r i hi
    rw [sizes_cons]; show r[i].size < _; omega
theorem size_get {k n : Int} {t : List UInt8} {l : List V} {ks : List (List UInt8)} (i : Nat) (h : i < l.length) : l[i].size < (V.mk k n t l ks).size := by
  have := sizes_get l i h
  rw [size_mk]; omega
/-- five cells in a row -/
def Five (w : World) (b o : Nat) (cs : List Value) : Prop :=
  ∃ c0 c1 c2 c3 c4, cs = [c0, c1, c2, c3, c4] ∧ w.cell? ⟨b, o, none⟩ = some c0 ∧ w.cell? ⟨b, o + 1, none⟩ = some c1 ∧ w.cell? ⟨b, o + 2, none⟩ = some c2 ∧ w.cell? ⟨b, o + 3, none⟩ = some c3 ∧ w.cell? ⟨b, o + 4, none⟩ = some c4
theorem Five.keep {w w' : World} {b o N : Nat} {cs : List Value} (h : Five w b o cs) (hb : b < N) (hk : ∀ p : Addr, p.block < N → w'.cell? p = w.cell? p) : Five w' b o cs := by
  obtain ⟨c0, c1, c2, c3, c4, e, h0, h1, h2, h3, h4⟩ := h
  exact ⟨c0, c1, c2, c3, c4, e, (hk _ hb).trans h0, (hk _ hb).trans h1, (hk _ hb).trans h2, (hk _ hb).trans h3, (hk _ hb).trans h4⟩
/-- texts in a row, one a cell -/
def KIs (w : World) (L N : Nat) : List (List UInt8) → Nat → Nat → Prop
  | [], _, _ => True
  | t :: r, b, o => L ≤ b ∧ b < N ∧ w.cell? ⟨b, o, none⟩ = some (.string ⟨t.toArray⟩) ∧ KIs w L N r b (o + 1)
/-- no length is greater than a length may be -/
def Room (t : List UInt8) (ll : Nat) (ks : List (List UInt8)) : Prop := ll ≤ 9223372036854775807 ∧ ks.length ≤ 9223372036854775807 ∧ t.length ≤ 9223372036854775807 ∧ ∀ x ∈ ks, x.length ≤ 9223372036854775807
mutual
/-- these five cells read as the value; its memory lies in blocks from L on, below N -/
def VIs (w : World) (L N : Nat) : V → List Value → Prop
  | .mk k n t l ks, cs => Room t l.length ks ∧ ∃ A c A' c', cs = [.int .i64 k, .int .i64 n, .string ⟨t.toArray⟩, .slice A l.length c, .slice A' ks.length c'] ∧
      (ks = [] ∨ ∃ b o, A' = some ⟨b, o, none⟩ ∧ KIs w L N ks b o) ∧ (l = [] ∨ ∃ b o, A = some ⟨b, o, none⟩ ∧ LIs w L N l b o)
/-- values in a row, five cells each -/
def LIs (w : World) (L N : Nat) : List V → Nat → Nat → Prop
  | [], _, _ => True
  | v :: r, b, o => L ≤ b ∧ b < N ∧ (∃ cs, Five w b o cs ∧ VIs w L N v cs) ∧ LIs w L N r b (o + 5)
end
theorem KIs.keep {w w' : World} {L N : Nat} (hk : ∀ p : Addr, p.block < N → w'.cell? p = w.cell? p) : ∀ {ks : List (List UInt8)} {b o : Nat}, KIs w L N ks b o → KIs w' L N ks b o
  | [], _, _, _ => trivial
  | _ :: _, _, _, ⟨h1, h2, h3, h4⟩ => ⟨h1, h2, (hk _ h2).trans h3, KIs.keep hk h4⟩
theorem KIs.more {w : World} {L N L' N' : Nat} (hL : L' ≤ L) (hN : N ≤ N') : ∀ {ks : List (List UInt8)} {b o : Nat}, KIs w L N ks b o → KIs w L' N' ks b o
  | [], _, _, _ => trivial
  | _ :: _, _, _, ⟨h1, h2, h3, h4⟩ => ⟨Nat.le_trans hL h1, Nat.lt_of_lt_of_le h2 hN, h3, KIs.more hL hN h4⟩
theorem KIs.get {w : World} {L N : Nat} : ∀ {ks : List (List UInt8)} {b o : Nat}, KIs w L N ks b o → ∀ i (h : i < ks.length), L ≤ b ∧ b < N ∧ w.cell? ⟨b, o + i, none⟩ = some (.string ⟨ks[i].toArray⟩)
  | [], _, _, _, i, h => absurd h (Nat.not_lt_zero _)
  | _ :: _, _, _, ⟨h1, h2, h3, _⟩, 0, _ => ⟨h1, h2, h3⟩
  | t :: r, b, o, ⟨h1, h2, _, h4⟩, i + 1, h => by
    have := KIs.get h4 i (by simpa using h)
    rw [Nat.add_assoc, Nat.add_comm 1 i] at this
    exact this
theorem KIs.of {w : World} {L N b : Nat} (hL : L ≤ b) (hN : b < N) : ∀ {ks : List (List UInt8)} {o : Nat}, (∀ i (h : i < ks.length), w.cell? ⟨b, o + i, none⟩ = some (.string ⟨ks[i].toArray⟩)) → KIs w L N ks b o
  | [], _, _ => trivial
  | t :: r, o, h => ⟨hL, hN, h 0 (by simp), KIs.of hL hN (ks := r) (o := o + 1) fun i hi => by
      have := h (i + 1) (by simpa using hi)
      have e : o + (i + 1) = o + 1 + i := by omega
      rw [e] at this
      exact this⟩
mutual
theorem VIs.keep {w w' : World} {L N : Nat} (hk : ∀ p : Addr, p.block < N → w'.cell? p = w.cell? p) : ∀ {v : V} {cs : List Value}, VIs w L N v cs → VIs w' L N v cs
  | .mk k n t l ks, cs, h => by
    unfold VIs at h ⊢
    obtain ⟨hl, A, c, A', c', e, h1, h2⟩ := h
    refine ⟨hl, A, c, A', c', e, ?_, ?_⟩
    · rcases h1 with h1 | ⟨b, o, e1, h1⟩
      · exact .inl h1
      · exact .inr ⟨b, o, e1, h1.keep hk⟩
    · rcases h2 with h2 | ⟨b, o, e1, h2⟩
      · exact .inl h2
      · exact .inr ⟨b, o, e1, LIs.keep hk h2⟩
theorem LIs.keep {w w' : World} {L N : Nat} (hk : ∀ p : Addr, p.block < N → w'.cell? p = w.cell? p) : ∀ {l : List V} {b o : Nat}, LIs w L N l b o → LIs w' L N l b o
  | [], _, _, _ => by unfold LIs; trivial
  | v :: r, b, o, h => by
    unfold LIs at h ⊢
    obtain ⟨h1, h2, ⟨cs, h3, h4⟩, h5⟩ := h
    exact ⟨h1, h2, ⟨cs, h3.keep h2 hk, VIs.keep hk h4⟩, LIs.keep hk h5⟩
end
mutual
theorem VIs.more {w : World} {L N L' N' : Nat} (hL : L' ≤ L) (hN : N ≤ N') : ∀ {v : V} {cs : List Value}, VIs w L N v cs → VIs w L' N' v cs
  | .mk k n t l ks, cs, h => by
    unfold VIs at h ⊢
    obtain ⟨hl, A, c, A', c', e, h1, h2⟩ := h
    refine ⟨hl, A, c, A', c', e, ?_, ?_⟩
    · rcases h1 with h1 | ⟨b, o, e1, h1⟩
      · exact .inl h1
      · exact .inr ⟨b, o, e1, h1.more hL hN⟩
    · rcases h2 with h2 | ⟨b, o, e1, h2⟩
      · exact .inl h2
      · exact .inr ⟨b, o, e1, LIs.more hL hN h2⟩
theorem LIs.more {w : World} {L N L' N' : Nat} (hL : L' ≤ L) (hN : N ≤ N') : ∀ {l : List V} {b o : Nat}, LIs w L N l b o → LIs w L' N' l b o
  | [], _, _, _ => by unfold LIs; trivial
  | v :: r, b, o, h => by
    unfold LIs at h ⊢
    obtain ⟨h1, h2, ⟨cs, h3, h4⟩, h5⟩ := h
    exact ⟨Nat.le_trans hL h1, Nat.lt_of_lt_of_le h2 hN, ⟨cs, h3, VIs.more hL hN h4⟩, LIs.more hL hN h5⟩
end
theorem KIs.keep2 {w w' : World} {L N : Nat} (hk : ∀ p : Addr, L ≤ p.block → p.block < N → w'.cell? p = w.cell? p) : ∀ {ks : List (List UInt8)} {b o : Nat}, KIs w L N ks b o → KIs w' L N ks b o
  | [], _, _, _ => trivial
  | _ :: _, _, _, ⟨h1, h2, h3, h4⟩ => ⟨h1, h2, (hk _ h1 h2).trans h3, KIs.keep2 hk h4⟩
mutual
theorem VIs.keep2 {w w' : World} {L N : Nat} (hk : ∀ p : Addr, L ≤ p.block → p.block < N → w'.cell? p = w.cell? p) : ∀ {v : V} {cs : List Value}, VIs w L N v cs → VIs w' L N v cs
  | .mk k n t l ks, cs, h => by
    unfold VIs at h ⊢
    obtain ⟨hl, A, c, A', c', e, h1, h2⟩ := h
    refine ⟨hl, A, c, A', c', e, ?_, ?_⟩
    · rcases h1 with h1 | ⟨b, o, e1, h1⟩
      · exact .inl h1
      · exact .inr ⟨b, o, e1, h1.keep2 hk⟩
    · rcases h2 with h2 | ⟨b, o, e1, h2⟩
      · exact .inl h2
      · exact .inr ⟨b, o, e1, LIs.keep2 hk h2⟩
theorem LIs.keep2 {w w' : World} {L N : Nat} (hk : ∀ p : Addr, L ≤ p.block → p.block < N → w'.cell? p = w.cell? p) : ∀ {l : List V} {b o : Nat}, LIs w L N l b o → LIs w' L N l b o
  | [], _, _, _ => by unfold LIs; trivial
  | v :: r, b, o, h => by
    unfold LIs at h ⊢
    obtain ⟨h1, h2, ⟨cs, h3, h4⟩, h5⟩ := h
    obtain ⟨c0, c1, c2, c3, c4, e, m0, m1, m2, m3, m4⟩ := h3
    exact ⟨h1, h2, ⟨cs, ⟨c0, c1, c2, c3, c4, e, (hk _ h1 h2).trans m0, (hk _ h1 h2).trans m1, (hk _ h1 h2).trans m2, (hk _ h1 h2).trans m3, (hk _ h1 h2).trans m4⟩, VIs.keep2 hk h4⟩, LIs.keep2 hk h5⟩
end
theorem VIs.below {w w' : World} {L N : Nat} {v : V} {cs : List Value} (h : VIs w L N v cs) (hb : Below N w w') : VIs w' L N v cs := h.keep fun _ hp => hb.cell hp
theorem LIs.below {w w' : World} {L N b o : Nat} {l : List V} (h : LIs w L N l b o) (hb : Below N w w') : LIs w' L N l b o := h.keep fun _ hp => hb.cell hp
theorem KIs.below {w w' : World} {L N b o : Nat} {l : List (List UInt8)} (h : KIs w L N l b o) (hb : Below N w w') : KIs w' L N l b o := h.keep fun _ hp => hb.cell hp
/-- element i of a row of values -/
theorem LIs.get {w : World} {L N : Nat} : ∀ {l : List V} {b o : Nat}, LIs w L N l b o → ∀ i (h : i < l.length), L ≤ b ∧ b < N ∧ ∃ cs, Five w b (o + i * 5) cs ∧ VIs w L N l[i] cs
  | [], _, _, _, i, h => absurd h (Nat.not_lt_zero _)
  | v :: r, b, o, hl, 0, _ => by
    unfold LIs at hl
    obtain ⟨h1, h2, ⟨cs, h3, h4⟩, h5⟩ := hl
    exact ⟨h1, h2, cs, by simpa using h3, h4⟩
  | v :: r, b, o, hl, i + 1, h => by
    unfold LIs at hl
    obtain ⟨h1, h2, ⟨cs, h3, h4⟩, h5⟩ := hl
    obtain ⟨h1, h2, cs, h3, h4⟩ := LIs.get h5 i (by simpa using h)
    refine ⟨h1, h2, cs, ?_, h4⟩
    have e : o + (i + 1) * 5 = o + 5 + i * 5 := by omega
    rw [e]; exact h3
theorem LIs.of {w : World} {L N b : Nat} (hL : L ≤ b) (hN : b < N) : ∀ {l : List V} {o : Nat}, (∀ i (h : i < l.length), ∃ cs, Five w b (o + i * 5) cs ∧ VIs w L N l[i] cs) → LIs w L N l b o
  | [], _, _ => by unfold LIs; trivial
  | v :: r, o, h => by
    unfold LIs
    refine ⟨hL, hN, ?_, LIs.of hL hN fun i hi => ?_⟩
    · obtain ⟨cs, h3, h4⟩ := h 0 (by simp)
      exact ⟨cs, by simpa using h3, h4⟩
    · obtain ⟨cs, h3, h4⟩ := h (i + 1) (by simpa using hi)
      have e : o + (i + 1) * 5 = o + 5 + i * 5 := by omega
      rw [e] at h3
      exact ⟨cs, h3, by simpa using h4⟩
/-- a value's cells, and what they lead to -/
theorem VIs.out {w : World} {L N : Nat} {k n : Int} {t : List UInt8} {l : List V} {ks : List (List UInt8)} {cs : List Value} (h : VIs w L N (.mk k n t l ks) cs) :
    Room t l.length ks ∧ ∃ A c A' c', cs = [.int .i64 k, .int .i64 n, .string ⟨t.toArray⟩, .slice A l.length c, .slice A' ks.length c'] ∧
      (ks = [] ∨ ∃ b o, A' = some ⟨b, o, none⟩ ∧ KIs w L N ks b o) ∧ (l = [] ∨ ∃ b o, A = some ⟨b, o, none⟩ ∧ LIs w L N l b o) := by
  unfold VIs at h; exact h
theorem VIs.mk {w : World} {L N : Nat} {k n : Int} {t : List UInt8} {l : List V} {ks : List (List UInt8)} {A A' : Option Addr} {c c' : Nat}
    (hr : Room t l.length ks) (h1 : ks = [] ∨ ∃ b o, A' = some ⟨b, o, none⟩ ∧ KIs w L N ks b o) (h2 : l = [] ∨ ∃ b o, A = some ⟨b, o, none⟩ ∧ LIs w L N l b o) :
    VIs w L N (.mk k n t l ks) [.int .i64 k, .int .i64 n, .string ⟨t.toArray⟩, .slice A l.length c, .slice A' ks.length c'] := by
  unfold VIs; exact ⟨hr, A, c, A', c', rfl, h1, h2⟩
/-- element i of a value's row, in the walk's own words -/
theorem VIs.item {w : World} {L N : Nat} {l : List V} {A : Option Addr} (h2 : l = [] ∨ ∃ b o, A = some ⟨b, o, none⟩ ∧ LIs w L N l b o) (i : Nat) (hi : i < l.length) :
    ∃ b o, A = some ⟨b, o, none⟩ ∧ L ≤ b ∧ b < N ∧ ∃ cs, Five w b (o + i * 5) cs ∧ VIs w L N l[i] cs := by
  rcases h2 with h | ⟨b, o, e, h⟩
  · subst h; simp at hi
  · obtain ⟨h1, h2, cs, h3, h4⟩ := h.get i hi
    exact ⟨b, o, e, h1, h2, cs, h3, h4⟩
theorem VIs.key {w : World} {L N : Nat} {ks : List (List UInt8)} {A : Option Addr} (h2 : ks = [] ∨ ∃ b o, A = some ⟨b, o, none⟩ ∧ KIs w L N ks b o) (i : Nat) (hi : i < ks.length) :
    ∃ b o, A = some ⟨b, o, none⟩ ∧ L ≤ b ∧ b < N ∧ w.cell? ⟨b, o + i, none⟩ = some (.string ⟨ks[i].toArray⟩) := by
  rcases h2 with h | ⟨b, o, e, h⟩
  · subst h; simp at hi
  · obtain ⟨h1, h2, h3⟩ := h.get i hi
    exact ⟨b, o, e, h1, h2, h3⟩
/-- the cells of a row of values, one behind the other -/
theorem LIs.flat {w : World} {L N : Nat} : ∀ {l : List V} {b o : Nat}, LIs w L N l b o → ∃ news : List Value, news.length = l.length * 5 ∧ (∀ j u, news[j]? = some u → w.cell? ⟨b, o + j, none⟩ = some u) ∧ ∀ u ∈ news, u.oneCell' = true
  | [], _, _, _ => ⟨[], rfl, by simp, by simp⟩
  | v :: r, b, o, h => by
    unfold LIs at h
    obtain ⟨h1, h2, ⟨cs, ⟨c0, c1, c2, c3, c4, e, m0, m1, m2, m3, m4⟩, h4⟩, h5⟩ := h
    obtain ⟨news, n1, n2, n3⟩ := h5.flat
    obtain ⟨k, n, t', l, ks⟩ := v
    obtain ⟨-, A, c, A', c', rfl, -, -⟩ := h4.out
    injection e with e0 e; injection e with e1 e; injection e with e2 e; injection e with e3 e; injection e with e4 e
    subst e0; subst e1; subst e2; subst e3; subst e4
    refine ⟨[.int .i64 k, .int .i64 n, .string ⟨t'.toArray⟩, .slice A l.length c, .slice A' ks.length c'] ++ news, by simp only [List.length_append, n1, List.length_cons, List.length_nil]; omega, ?_, ?_⟩
    · intro j u hu
      match j, hu with
      | 0, hu => simp at hu; subst hu; exact m0
      | 1, hu => simp at hu; subst hu; exact m1
      | 2, hu => simp at hu; subst hu; exact m2
      | 3, hu => simp at hu; subst hu; exact m3
      | 4, hu => simp at hu; subst hu; exact m4
      | j + 5, hu =>
        have := n2 j u (by simpa using hu)
        have e : o + (j + 5) = o + 5 + j := by omega
        rw [e]; exact this
    · intro u hu
      rcases List.mem_append.1 hu with hu | hu
      · simp at hu; rcases hu with rfl | rfl | rfl | rfl | rfl <;> rfl
      · exact n3 u hu
/-- a variable of five cells -/
def Box (w : World) (b : Nat) (c0 c1 c2 c3 c4 : Value) : Prop :=
  w.cell? ⟨b, 0, none⟩ = some c0 ∧ w.cell? ⟨b, 1, none⟩ = some c1 ∧ w.cell? ⟨b, 2, none⟩ = some c2 ∧ w.cell? ⟨b, 3, none⟩ = some c3 ∧ w.cell? ⟨b, 4, none⟩ = some c4
theorem Box.below {w w' : World} {b : Nat} {c0 c1 c2 c3 c4 : Value} (h : Box w b c0 c1 c2 c3 c4) (hb : b < w.heap.size) (h' : Below w.heap.size w w') : Box w' b c0 c1 c2 c3 c4 :=
  ⟨(h'.cell (p := ⟨b, 0, none⟩) hb).trans h.1, (h'.cell (p := ⟨b, 1, none⟩) hb).trans h.2.1, (h'.cell (p := ⟨b, 2, none⟩) hb).trans h.2.2.1, (h'.cell (p := ⟨b, 3, none⟩) hb).trans h.2.2.2.1, (h'.cell (p := ⟨b, 4, none⟩) hb).trans h.2.2.2.2⟩
theorem Box.new (w : World) (c0 c1 c2 c3 c4 : Value) (t : TypeId) : Box (w.alloc (.cells #[c0, c1, c2, c3, c4] t)) w.heap.size c0 c1 c2 c3 c4 := by
  unfold Box; simp
theorem VIs.form {w : World} {L N : Nat} {v : V} {cs : List Value} (hv : VIs w L N v cs) : ∃ A c A' c', cs = [.int .i64 v.kind, .int .i64 v.num, .string ⟨v.text.toArray⟩, .slice A v.list.length c, .slice A' v.keys.length c'] := by
  obtain ⟨k, n, t', l, ks⟩ := v
  obtain ⟨-, A, c, A', c', rfl, -, -⟩ := hv.out
  exact ⟨A, c, A', c', rfl⟩
theorem Five.out {w : World} {b o : Nat} {cs : List Value} (h : Five w b o cs) : ∃ c0 c1 c2 c3 c4, cs = [c0, c1, c2, c3, c4] ∧ w.cell? ⟨b, o, none⟩ = some c0 ∧ w.cell? ⟨b, o + 1, none⟩ = some c1 ∧ w.cell? ⟨b, o + 2, none⟩ = some c2 ∧ w.cell? ⟨b, o + 3, none⟩ = some c3 ∧ w.cell? ⟨b, o + 4, none⟩ = some c4 := h
end Go.Proofs.YtobicmpgfiddhaaDoor
