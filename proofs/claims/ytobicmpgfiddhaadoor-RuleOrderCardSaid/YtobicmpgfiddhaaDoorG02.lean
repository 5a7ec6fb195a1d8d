/- Texts merged by program, in build order: JsonMem, JsonGood, Cellar, JsonSet, JsonGroup0. -/
import Derived.Test.YtobicmpgfiddhaaDoorG01
import Derived.Maps.AppendAt
import Derived.Laws.AppendOwnNone
import Derived.Deep.WholeRow
namespace Go.Proofs.YtobicmpgfiddhaaDoor
open Go.RowKit

theorem sizes_cons (v : V) (r : List V) : V.sizes (v :: r) = 1 + v.size + V.sizes r := by conv => lhs; unfold V.sizes
theorem size_mk (k n : Int) (t : List UInt8) (l : List V) (ks : List (List UInt8)) : (V.mk k n t l ks).size = 2 + V.sizes l := by unfold V.size; rfl
theorem sizes_get : ∀ (l : List V) (i : Nat) (h : i < l.length), l[i].size < 1 + V.sizes l
  | [], i, h => absurd h (Nat.not_lt_zero _)
  | v :: r, 0, _ => by rw [sizes_cons]; show v.size < _; omega
  | v :: r, i + 1, h => by
    have hi : i < r.length := by simpa using h
    have := sizes_get r i hi
    rw [sizes_cons]; show r[i].size < _; omega
theorem size_get {k n : Int} {t : List UInt8} {l : List V} {ks : List (List UInt8)} (i : Nat) (h : i < l.length) : l[i].size < (V.mk k n t l ks).size := by
  have := sizes_get l i h
  rw [size_mk]; omega
/-- five cells in a row -/
def Five (w : World) (b o : Nat) (cs : List Value) : Prop :=
  ∃ c0 c1 c2 c3 c4, cs = [c0, c1, c2, c3, c4] ∧ w.cell? ⟨b, o, none⟩ = some c0 ∧ w.cell? ⟨b, o + 1, none⟩ = some c1 ∧ w.cell? ⟨b, o + 2, none⟩ = some c2 ∧ w.cell? ⟨b, o + 3, none⟩ = some c3 ∧ w.cell? ⟨b, o + 4, none⟩ = some c4
theorem Five.keep {w w' : World} {b o N : Nat} {cs : List Value} (h : Five w b o cs) (hb : b < N) (hk : ∀ p : Addr, p.block < N → w'.cell? p = w.cell? p) : Five w' b o cs := by
  obtain ⟨c0, c1, c2, c3, c4, e, h0, h1, h2, h3, h4⟩ := h
  exact ⟨c0, c1, c2, c3, c4, e, (hk _ hb).trans h0, (hk _ hb).trans h1, (hk _ hb).trans h2, (hk _ hb).trans h3, (hk _ hb).trans h4⟩
/-- texts in a row, one a cell -/
def KIs (w : World) (L N : Nat) : List (List UInt8) → Nat → Nat → Prop
  | [], _, _ => True
  | t :: r, b, o => L ≤ b ∧ b < N ∧ w.cell? ⟨b, o, none⟩ = some (.string ⟨t.toArray⟩) ∧ KIs w L N r b (o + 1)
/-- no length is greater than a length may be -/
def Room (t : List UInt8) (ll : Nat) (ks : List (List UInt8)) : Prop := ll ≤ 9223372036854775807 ∧ ks.length ≤ 9223372036854775807 ∧ t.length ≤ 9223372036854775807 ∧ ∀ x ∈ ks, x.length ≤ 9223372036854775807
mutual
/-- these five cells read as the value; its memory lies in blocks from L on, below N -/
def VIs (w : World) (L N : Nat) : V → List Value → Prop
  | .mk k n t l ks, cs => Room t l.length ks ∧ ∃ A c A' c', cs = [.int .i64 k, .int .i64 n, .string ⟨t.toArray⟩, .slice A l.length c, .slice A' ks.length c'] ∧
      (ks = [] ∨ ∃ b o, A' = some ⟨b, o, none⟩ ∧ KIs w L N ks b o) ∧ (l = [] ∨ ∃ b o, A = some ⟨b, o, none⟩ ∧ LIs w L N l b o)
/-- values in a row, five cells each -/
def LIs (w : World) (L N : Nat) : List V → Nat → Nat → Prop
  | [], _, _ => True
  | v :: r, b, o => L ≤ b ∧ b < N ∧ (∃ cs, Five w b o cs ∧ VIs w L N v cs) ∧ LIs w L N r b (o + 5)
end
theorem KIs.keep {w w' : World} {L N : Nat} (hk : ∀ p : Addr, p.block < N → w'.cell? p = w.cell? p) : ∀ {ks : List (List UInt8)} {b o : Nat}, KIs w L N ks b o → KIs w' L N ks b o
  | [], _, _, _ => trivial
  | _ :: _, _, _, ⟨h1, h2, h3, h4⟩ => ⟨h1, h2, (hk _ h2).trans h3, KIs.keep hk h4⟩
theorem KIs.more {w : World} {L N L' N' : Nat} (hL : L' ≤ L) (hN : N ≤ N') : ∀ {ks : List (List UInt8)} {b o : Nat}, KIs w L N ks b o → KIs w L' N' ks b o
  | [], _, _, _ => trivial
  | _ :: _, _, _, ⟨h1, h2, h3, h4⟩ => ⟨Nat.le_trans hL h1, Nat.lt_of_lt_of_le h2 hN, h3, KIs.more hL hN h4⟩
theorem KIs.get {w : World} {L N : Nat} : ∀ {ks : List (List UInt8)} {b o : Nat}, KIs w L N ks b o → ∀ i (h : i < ks.length), L ≤ b ∧ b < N ∧ w.cell? ⟨b, o + i, none⟩ = some (.string ⟨ks[i].toArray⟩)
  | [], _, _, _, i, h => absurd h (Nat.not_lt_zero _)
  | _ :: _, _, _, ⟨h1, h2, h3, _⟩, 0, _ => ⟨h1, h2, h3⟩
  | t :: r, b, o, ⟨h1, h2, _, h4⟩, i + 1, h => by
    have := KIs.get h4 i (by simpa using h)
    rw [Nat.add_assoc, Nat.add_comm 1 i] at this
    exact this
theorem KIs.of {w : World} {L N b : Nat} (hL : L ≤ b) (hN : b < N) : ∀ {ks : List (List UInt8)} {o : Nat}, (∀ i (h : i < ks.length), w.cell? ⟨b, o + i, none⟩ = some (.string ⟨ks[i].toArray⟩)) → KIs w L N ks b o
  | [], _, _ => trivial
  | t :: r, o, h => ⟨hL, hN, h 0 (by simp), KIs.of hL hN (ks := r) (o := o + 1) fun i hi => by
      have := h (i + 1) (by simpa using hi)
      have e : o + (i + 1) = o + 1 + i := by omega
      rw [e] at this
      exact this⟩
mutual
theorem VIs.keep {w w' : World} {L N : Nat} (hk : ∀ p : Addr, p.block < N → w'.cell? p = w.cell? p) : ∀ {v : V} {cs : List Value}, VIs w L N v cs → VIs w' L N v cs
  | .mk k n t l ks, cs, h => by
    unfold VIs at h ⊢
    obtain ⟨hl, A, c, A', c', e, h1, h2⟩ := h
    refine ⟨hl, A, c, A', c', e, ?_, ?_⟩
    · rcases h1 with h1 | ⟨b, o, e1, h1⟩
      · exact .inl h1
      · exact .inr ⟨b, o, e1, h1.keep hk⟩
    · rcases h2 with h2 | ⟨b, o, e1, h2⟩
      · exact .inl h2
      · exact .inr ⟨b, o, e1, LIs.keep hk h2⟩
theorem LIs.keep {w w' : World} {L N : Nat} (hk : ∀ p : Addr, p.block < N → w'.cell? p = w.cell? p) : ∀ {l : List V} {b o : Nat}, LIs w L N l b o → LIs w' L N l b o
  | [], _, _, _ => by unfold LIs; trivial
  | v :: r, b, o, h => by
    unfold LIs at h ⊢
    obtain ⟨h1, h2, ⟨cs, h3, h4⟩, h5⟩ := h
    exact ⟨h1, h2, ⟨cs, h3.keep h2 hk, VIs.keep hk h4⟩, LIs.keep hk h5⟩
end
mutual
theorem VIs.more {w : World} {L N L' N' : Nat} (hL : L' ≤ L) (hN : N ≤ N') : ∀ {v : V} {cs : List Value}, VIs w L N v cs → VIs w L' N' v cs
  | .mk k n t l ks, cs, h => by
    unfold VIs at h ⊢
    obtain ⟨hl, A, c, A', c', e, h1, h2⟩ := h
    refine ⟨hl, A, c, A', c', e, ?_, ?_⟩
    · rcases h1 with h1 | ⟨b, o, e1, h1⟩
      · exact .inl h1
      · exact .inr ⟨b, o, e1, h1.more hL hN⟩
    · rcases h2 with h2 | ⟨b, o, e1, h2⟩
      · exact .inl h2
      · exact .inr ⟨b, o, e1, LIs.more hL hN h2⟩
theorem LIs.more {w : World} {L N L' N' : Nat} (hL : L' ≤ L) (hN : N ≤ N') : ∀ {l : List V} {b o : Nat}, LIs w L N l b o → LIs w L' N' l b o
  | [], _, _, _ => by unfold LIs; trivial
  | v :: r, b, o, h => by
    unfold LIs at h ⊢
    obtain ⟨h1, h2, ⟨cs, h3, h4⟩, h5⟩ := h
    exact ⟨Nat.le_trans hL h1, Nat.lt_of_lt_of_le h2 hN, ⟨cs, h3, VIs.more hL hN h4⟩, LIs.more hL hN h5⟩
end
theorem KIs.keep2 {w w' : World} {L N : Nat} (hk : ∀ p : Addr, L ≤ p.block → p.block < N → w'.cell? p = w.cell? p) : ∀ {ks : List (List UInt8)} {b o : Nat}, KIs w L N ks b o → KIs w' L N ks b o
  | [], _, _, _ => trivial
  | _ :: _, _, _, ⟨h1, h2, h3, h4⟩ => ⟨h1, h2, (hk _ h1 h2).trans h3, KIs.keep2 hk h4⟩
mutual
theorem VIs.keep2 {w w' : World} {L N : Nat} (hk : ∀ p : Addr, L ≤ p.block → p.block < N → w'.cell? p = w.cell? p) : ∀ {v : V} {cs : List Value}, VIs w L N v cs → VIs w' L N v cs
  | .mk k n t l ks, cs, h => by
    unfold VIs at h ⊢
    obtain ⟨hl, A, c, A', c', e, h1, h2⟩ := h
    refine ⟨hl, A, c, A', c', e, ?_, ?_⟩
    · rcases h1 with h1 | ⟨b, o, e1, h1⟩
      · exact .inl h1
      · exact .inr ⟨b, o, e1, h1.keep2 hk⟩
    · rcases h2 with h2 | ⟨b, o, e1, h2⟩
      · exact .inl h2
      · exact .inr ⟨b, o, e1, LIs.keep2 hk h2⟩
theorem LIs.keep2 {w w' : World} {L N : Nat} (hk : ∀ p : Addr, L ≤ p.block → p.block < N → w'.cell? p = w.cell? p) : ∀ {l : List V} {b o : Nat}, LIs w L N l b o → LIs w' L N l b o
  | [], _, _, _ => by unfold LIs; trivial
  | v :: r, b, o, h => by
    unfold LIs at h ⊢
    obtain ⟨h1, h2, ⟨cs, h3, h4⟩, h5⟩ := h
    obtain ⟨c0, c1, c2, c3, c4, e, m0, m1, m2, m3, m4⟩ := h3
    exact ⟨h1, h2, ⟨cs, ⟨c0, c1, c2, c3, c4, e, (hk _ h1 h2).trans m0, (hk _ h1 h2).trans m1, (hk _ h1 h2).trans m2, (hk _ h1 h2).trans m3, (hk _ h1 h2).trans m4⟩, VIs.keep2 hk h4⟩, LIs.keep2 hk h5⟩
end
theorem VIs.below {w w' : World} {L N : Nat} {v : V} {cs : List Value} (h : VIs w L N v cs) (hb : Below N w w') : VIs w' L N v cs := h.keep fun _ hp => hb.cell hp
theorem LIs.below {w w' : World} {L N b o : Nat} {l : List V} (h : LIs w L N l b o) (hb : Below N w w') : LIs w' L N l b o := h.keep fun _ hp => hb.cell hp
theorem KIs.below {w w' : World} {L N b o : Nat} {l : List (List UInt8)} (h : KIs w L N l b o) (hb : Below N w w') : KIs w' L N l b o := h.keep fun _ hp => hb.cell hp
/-- element i of a row of values -/
theorem LIs.get {w : World} {L N : Nat} : ∀ {l : List V} {b o : Nat}, LIs w L N l b o → ∀ i (h : i < l.length), L ≤ b ∧ b < N ∧ ∃ cs, Five w b (o + i * 5) cs ∧ VIs w L N l[i] cs
  | [], _, _, _, i, h => absurd h (Nat.not_lt_zero _)
  | v :: r, b, o, hl, 0, _ => by
    unfold LIs at hl
    obtain ⟨h1, h2, ⟨cs, h3, h4⟩, h5⟩ := hl
    exact ⟨h1, h2, cs, by simpa using h3, h4⟩
  | v :: r, b, o, hl, i + 1, h => by
    unfold LIs at hl
    obtain ⟨h1, h2, ⟨cs, h3, h4⟩, h5⟩ := hl
    obtain ⟨h1, h2, cs, h3, h4⟩ := LIs.get h5 i (by simpa using h)
    refine ⟨h1, h2, cs, ?_, h4⟩
    have e : o + (i + 1) * 5 = o + 5 + i * 5 := by omega
    rw [e]; exact h3
theorem LIs.of {w : World} {L N b : Nat} (hL : L ≤ b) (hN : b < N) : ∀ {l : List V} {o : Nat}, (∀ i (h : i < l.length), ∃ cs, Five w b (o + i * 5) cs ∧ VIs w L N l[i] cs) → LIs w L N l b o
  | [], _, _ => by unfold LIs; trivial
  | v :: r, o, h => by
    unfold LIs
    refine ⟨hL, hN, ?_, LIs.of hL hN fun i hi => ?_⟩
    · obtain ⟨cs, h3, h4⟩ := h 0 (by simp)
      exact ⟨cs, by simpa using h3, h4⟩
    · obtain ⟨cs, h3, h4⟩ := h (i + 1) (by simpa using hi)
      have e : o + (i + 1) * 5 = o + 5 + i * 5 := by omega
      rw [e] at h3
      exact ⟨cs, h3, by simpa using h4⟩
/-- a value's cells, and what they lead to -/
theorem VIs.out {w : World} {L N : Nat} {k n : Int} {t : List UInt8} {l : List V} {ks : List (List UInt8)} {cs : List Value} (h : VIs w L N (.mk k n t l ks) cs) :
    Room t l.length ks ∧ ∃ A c A' c', cs = [.int .i64 k, .int .i64 n, .string ⟨t.toArray⟩, .slice A l.length c, .slice A' ks.length c'] ∧
      (ks = [] ∨ ∃ b o, A' = some ⟨b, o, none⟩ ∧ KIs w L N ks b o) ∧ (l = [] ∨ ∃ b o, A = some ⟨b, o, none⟩ ∧ LIs w L N l b o) := by
  unfold VIs at h; exact h
theorem VIs.mk {w : World} {L N : Nat} {k n : Int} {t : List UInt8} {l : List V} {ks : List (List UInt8)} {A A' : Option Addr} {c c' : Nat}
    (hr : Room t l.length ks) (h1 : ks = [] ∨ ∃ b o, A' = some ⟨b, o, none⟩ ∧ KIs w L N ks b o) (h2 : l = [] ∨ ∃ b o, A = some ⟨b, o, none⟩ ∧ LIs w L N l b o) :
    VIs w L N (.mk k n t l ks) [.int .i64 k, .int .i64 n, .string ⟨t.toArray⟩, .slice A l.length c, .slice A' ks.length c'] := by
  unfold VIs; exact ⟨hr, A, c, A', c', rfl, h1, h2⟩
/-- element i of a value's row, in the walk's own words -/
theorem VIs.item {w : World} {L N : Nat} {l : List V} {A : Option Addr} (h2 : l = [] ∨ ∃ b o, A = some ⟨b, o, none⟩ ∧ LIs w L N l b o) (i : Nat) (hi : i < l.length) :
    ∃ b o, A = some ⟨b, o, none⟩ ∧ L ≤ b ∧ b < N ∧ ∃ cs, Five w b (o + i * 5) cs ∧ VIs w L N l[i] cs := by
  rcases h2 with h | ⟨b, o, e, h⟩
  · subst h; simp at hi
  · obtain ⟨h1, h2, cs, h3, h4⟩ := h.get i hi
    exact ⟨b, o, e, h1, h2, cs, h3, h4⟩
theorem VIs.key {w : World} {L N : Nat} {ks : List (List UInt8)} {A : Option Addr} (h2 : ks = [] ∨ ∃ b o, A = some ⟨b, o, none⟩ ∧ KIs w L N ks b o) (i : Nat) (hi : i < ks.length) :
    ∃ b o, A = some ⟨b, o, none⟩ ∧ L ≤ b ∧ b < N ∧ w.cell? ⟨b, o + i, none⟩ = some (.string ⟨ks[i].toArray⟩) := by
  rcases h2 with h | ⟨b, o, e, h⟩
  · subst h; simp at hi
  · obtain ⟨h1, h2, h3⟩ := h.get i hi
    exact ⟨b, o, e, h1, h2, h3⟩
/-- the cells of a row of values, one behind the other -/
theorem LIs.flat {w : World} {L N : Nat} : ∀ {l : List V} {b o : Nat}, LIs w L N l b o → ∃ news : List Value, news.length = l.length * 5 ∧ (∀ j u, news[j]? = some u → w.cell? ⟨b, o + j, none⟩ = some u) ∧ ∀ u ∈ news, u.oneCell' = true
  | [], _, _, _ => ⟨[], rfl, by simp, by simp⟩
  | v :: r, b, o, h => by
    unfold LIs at h
    obtain ⟨h1, h2, ⟨cs, ⟨c0, c1, c2, c3, c4, e, m0, m1, m2, m3, m4⟩, h4⟩, h5⟩ := h
    obtain ⟨news, n1, n2, n3⟩ := h5.flat
    obtain ⟨k, n, t', l, ks⟩ := v
    obtain ⟨-, A, c, A', c', rfl, -, -⟩ := h4.out
    injection e with e0 e; injection e with e1 e; injection e with e2 e; injection e with e3 e; injection e with e4 e
    subst e0; subst e1; subst e2; subst e3; subst e4
    refine ⟨[.int .i64 k, .int .i64 n, .string ⟨t'.toArray⟩, .slice A l.length c, .slice A' ks.length c'] ++ news, by simp only [List.length_append, n1, List.length_cons, List.length_nil]; omega, ?_, ?_⟩
    · intro j u hu
      match j, hu with
      | 0, hu => simp at hu; subst hu; exact m0
      | 1, hu => simp at hu; subst hu; exact m1
      | 2, hu => simp at hu; subst hu; exact m2
      | 3, hu => simp at hu; subst hu; exact m3
      | 4, hu => simp at hu; subst hu; exact m4
      | j + 5, hu =>
        have := n2 j u (by simpa using hu)
        have e : o + (j + 5) = o + 5 + j := by omega
        rw [e]; exact this
    · intro u hu
      rcases List.mem_append.1 hu with hu | hu
      · simp at hu; rcases hu with rfl | rfl | rfl | rfl | rfl <;> rfl
      · exact n3 u hu
/-- a variable of five cells -/
def Box (w : World) (b : Nat) (c0 c1 c2 c3 c4 : Value) : Prop :=
  w.cell? ⟨b, 0, none⟩ = some c0 ∧ w.cell? ⟨b, 1, none⟩ = some c1 ∧ w.cell? ⟨b, 2, none⟩ = some c2 ∧ w.cell? ⟨b, 3, none⟩ = some c3 ∧ w.cell? ⟨b, 4, none⟩ = some c4
theorem Box.below {w w' : World} {b : Nat} {c0 c1 c2 c3 c4 : Value} (h : Box w b c0 c1 c2 c3 c4) (hb : b < w.heap.size) (h' : Below w.heap.size w w') : Box w' b c0 c1 c2 c3 c4 :=
  ⟨(h'.cell (p := ⟨b, 0, none⟩) hb).trans h.1, (h'.cell (p := ⟨b, 1, none⟩) hb).trans h.2.1, (h'.cell (p := ⟨b, 2, none⟩) hb).trans h.2.2.1, (h'.cell (p := ⟨b, 3, none⟩) hb).trans h.2.2.2.1, (h'.cell (p := ⟨b, 4, none⟩) hb).trans h.2.2.2.2⟩
theorem Box.new (w : World) (c0 c1 c2 c3 c4 : Value) (t : TypeId) : Box (w.alloc (.cells #[c0, c1, c2, c3, c4] t)) w.heap.size c0 c1 c2 c3 c4 := by
  unfold Box; simp
theorem VIs.form {w : World} {L N : Nat} {v : V} {cs : List Value} (hv : VIs w L N v cs) : ∃ A c A' c', cs = [.int .i64 v.kind, .int .i64 v.num, .string ⟨v.text.toArray⟩, .slice A v.list.length c, .slice A' v.keys.length c'] := by
  obtain ⟨k, n, t', l, ks⟩ := v
  obtain ⟨-, A, c, A', c', rfl, -, -⟩ := hv.out
  exact ⟨A, c, A', c', rfl⟩
theorem Five.out {w : World} {b o : Nat} {cs : List Value} (h : Five w b o cs) : ∃ c0 c1 c2 c3 c4, cs = [c0, c1, c2, c3, c4] ∧ w.cell? ⟨b, o, none⟩ = some c0 ∧ w.cell? ⟨b, o + 1, none⟩ = some c1 ∧ w.cell? ⟨b, o + 2, none⟩ = some c2 ∧ w.cell? ⟨b, o + 3, none⟩ = some c3 ∧ w.cell? ⟨b, o + 4, none⟩ = some c4 := h
end Go.Proofs.YtobicmpgfiddhaaDoor
namespace Go.Proofs.YtobicmpgfiddhaaDoor
open Go.RowKit

mutual
def V.depth : V → Nat
  | .mk _ _ _ l _ => 1 + V.depths l
def V.depths : List V → Nat
  | [] => 0
  | v :: r => max v.depth (V.depths r)
end
mutual
/-- good, however deep -/
def V.good : V → Bool
  | .mk k n t l ks => headB k n t l.length ks && V.goods l
def V.goods : List V → Bool
  | [] => true
  | v :: r => v.good && V.goods r
end
theorem depth_mk (k n : Int) (t : List UInt8) (l : List V) (ks : List (List UInt8)) : (V.mk k n t l ks).depth = 1 + V.depths l := by conv => lhs; unfold V.depth
theorem depths_cons (v : V) (r : List V) : V.depths (v :: r) = max v.depth (V.depths r) := by conv => lhs; unfold V.depths
theorem depths_nil : V.depths [] = 0 := by unfold V.depths; rfl
theorem good_mk (k n : Int) (t : List UInt8) (l : List V) (ks : List (List UInt8)) : (V.mk k n t l ks).good = (headB k n t l.length ks && V.goods l) := by conv => lhs; unfold V.good
theorem goods_cons (v : V) (r : List V) : V.goods (v :: r) = (v.good && V.goods r) := by conv => lhs; unfold V.goods
theorem goods_nil : V.goods [] = true := by unfold V.goods; rfl
theorem goods_iff (l : List V) : V.goods l = true ↔ ∀ i (h : i < l.length), l[i].good = true := by
  induction l with
  | nil => simp [goods_nil]
  | cons v r ih =>
    rw [goods_cons, Bool.and_eq_true, ih]
    constructor
    · intro ⟨h1, h2⟩ i hi
      cases i with
      | zero => exact h1
      | succ i => exact h2 i (by simpa using hi)
    · intro h
      exact ⟨h 0 (by simp), fun i hi => h (i + 1) (by simpa using hi)⟩
theorem depths_iff (l : List V) (d : Nat) : V.depths l ≤ d ↔ ∀ i (h : i < l.length), l[i].depth ≤ d := by
  induction l with
  | nil => simp [depths_nil]
  | cons v r ih =>
    rw [depths_cons]
    constructor
    · intro h i hi
      cases i with
      | zero => show v.depth ≤ d; omega
      | succ i => exact ih.1 (by omega) i (by simpa using hi)
    · intro h
      have h0 := h 0 (by simp)
      have h1 := ih.2 (fun i hi => h (i + 1) (by simpa using hi))
      have h0' : v.depth ≤ d := h0
      omega
theorem fits_mk (k n : Int) (t : List UInt8) (l : List V) (ks : List (List UInt8)) (d : Nat) : (V.mk k n t l ks).fits (d + 1) = (headB k n t l.length ks && V.fitsAll l d) := by conv => lhs; unfold V.fits
theorem fits_zero (v : V) : v.fits 0 = false := by obtain ⟨k, n, t, l, ks⟩ := v; unfold V.fits; rfl
/-- good, and so deep: good, and how deep -/
theorem fits_good : ∀ (d : Nat) (v : V), v.fits d = (decide (v.depth ≤ d) && v.good)
  | 0, v => by
    rw [fits_zero]
    obtain ⟨k, n, t, l, ks⟩ := v
    rw [depth_mk]
    have : decide (1 + V.depths l ≤ 0) = false := by simp
    rw [this]; rfl
  | d + 1, v => by
    obtain ⟨k, n, t, l, ks⟩ := v
    rw [fits_mk, depth_mk, good_mk]
    have h : V.fitsAll l d = (decide (V.depths l ≤ d) && V.goods l) := by
      rw [Bool.eq_iff_iff, fitsAll_iff, Bool.and_eq_true, decide_eq_true_eq, depths_iff, goods_iff]
      constructor
      · intro h
        refine ⟨fun i hi => ?_, fun i hi => ?_⟩
        · have := h l[i] (List.getElem_mem hi)
          rw [fits_good d] at this
          simp only [Bool.and_eq_true, decide_eq_true_eq] at this
          exact this.1
        · have := h l[i] (List.getElem_mem hi)
          rw [fits_good d] at this
          simp only [Bool.and_eq_true, decide_eq_true_eq] at this
          exact this.2
      · intro ⟨h1, h2⟩ v hv
        obtain ⟨i, hi, rfl⟩ := List.getElem_of_mem hv
        rw [fits_good d, h2 i hi]
        simpa using h1 i hi
    rw [h]
    have e : decide (1 + V.depths l ≤ d + 1) = decide (V.depths l ≤ d) := by
      rw [decide_eq_decide]; omega
    rw [e]
    cases headB k n t l.length ks <;> cases decide (V.depths l ≤ d) <;> rfl
theorem good_fits {v : V} (h : v.good = true) : v.fits v.depth = true := by rw [fits_good, h]; simp
theorem fits_isgood {v : V} {d : Nat} (h : v.fits d = true) : v.good = true := by rw [fits_good] at h; simp at h; exact h.2
end Go.Proofs.YtobicmpgfiddhaaDoor
namespace Go.Proofs.YtobicmpgfiddhaaDoor
open Go.RowKit
set_option linter.unusedVariables false
set_option linter.unusedSimpArgs false

theorem set_here {w : World} {b o : Nat} {C : Array Value} {t : TypeId} {fr : Nat × Nat} (h : w.heap[b]? = some (.cells C t fr)) (v : Value) : (w.setCell ⟨b, o, none⟩ v).heap[b]? = some (.cells (C.setIfInBounds o v) t fr) := by
  unfold World.setCell
  simp only [Array.getElem?_modify, if_true]
  rw [h]; rfl
theorem set_there {w : World} {b o b' : Nat} (v : Value) (h : b' ≠ b) : (w.setCell ⟨b, o, none⟩ v).heap[b']? = w.heap[b']? := Below.heap_setCell w ⟨b, o, none⟩ v b' h
theorem set_size (w : World) (a : Addr) (v : Value) : (w.setCell a v).heap.size = w.heap.size := by unfold World.setCell; simp
theorem cell_here {w : World} {b o : Nat} {C : Array Value} {t : TypeId} {fr : Nat × Nat} (h : w.heap[b]? = some (.cells C t fr)) : w.cell? ⟨b, o, none⟩ = C[o]? := by
  unfold World.cell?; simp only [h]; rfl
theorem cell_block {w w' : World} {b o : Nat} (h : w'.heap[b]? = w.heap[b]?) : w'.cell? ⟨b, o, none⟩ = w.cell? ⟨b, o, none⟩ := by unfold World.cell?; simp only [h]
theorem frozen_here {w : World} {b : Nat} {C : Array Value} {t : TypeId} (h : w.heap[b]? = some (.cells C t (0, 0))) (o : Nat) : w.frozen? ⟨b, o, none⟩ = false := by
  unfold World.frozen?; simp only [h]; simp
theorem own_below {w w' : World} {B size n : Nat} {e : TypeId} {v : Value} {xs : List Value} (h : w.ownsRow B e size v n xs) (hb : Below w.heap.size w w') : w'.ownsRow B e size v n xs :=
  World.ownsRow.kept (row := none) h ⟨hb.os, hb.tape, hb.output, hb.size, fun k hk _ => hb.block k hk⟩ (by
    rcases h.2 with ⟨rfl, _⟩ | ⟨g, cap, cur, rfl, _⟩
    · exact .inl rfl
    · exact .inr (by simp [Value.ownBlock]))
theorem own_kept {w w' : World} {B size n : Nat} {e : TypeId} {v : Value} {xs : List Value} (h : w.ownsRow B e size v n xs) (hb : ∀ g, v.ownBlock = some g → w'.heap[g]? = w.heap[g]?) : w'.ownsRow B e size v n xs := by
  refine ⟨h.1, ?_⟩
  rcases h.2 with h' | ⟨g, cap, cur, hv, hB, hg, r⟩
  · exact .inl h'
  · exact .inr ⟨g, cap, cur, hv, hB, by rw [hb g (by rw [hv]; rfl)]; exact hg, r⟩
theorem own_apart {w : World} {B B' s s' n n' : Nat} {e e' : TypeId} {v v' : Value} {xs xs' : List Value} (h : w.ownsRow B e s v n xs) (h' : w.ownsRow B' e' s' v' n' xs') (he : e ≠ e') (g : Nat) (hv : v.ownBlock = some g) (hv' : v'.ownBlock = some g) : False := by
  rcases h.2 with ⟨rfl, _⟩ | ⟨k, cap, cur, rfl, _, hg, _⟩
  · cases hv
  rcases h'.2 with ⟨rfl, _⟩ | ⟨k', cap', cur', rfl, _, hg', _⟩
  · cases hv'
  · injection hv with hv; injection hv' with hv'
    subst hv; subst hv'
    rw [hg] at hg'
    injection hg' with hg'
    injection hg' with _ e
    exact he e
/-- append onto a row of the call's own, of a slice that may be nil, as one step of a region that draws its order; where the new row lies -/
theorem step_append_opt {P : Program} {w : World} {ops : Array Oper} {o : Oper} {a : Act} {K : Act → World → Prop} {Q : Exit → Act → World → Prop} {E : Prop} (hgd : o.guard = none) (s x : Operand) (t : TypeId)
    (ho : o.op = .call { callee := .builtin .append, args := #[s, x], argTypes := #[t, t] })
    (base : Nat) (e : TypeId) (i : TypeInfo) (z : Value) (size bytes : Nat) (ht : P.underlying t = some (.slice e)) (hi : P.info? e = some i) (hz : i.zero = some z)
    (hsize : i.size = size) (hby : i.bytes = bytes) (hzs : z.cells.size = size) (hsz : 0 < size)
    (v : Value) (n : Nat) (xs : List Value) (hs : a.eval s = v) (hown : w.ownsRow base e size v n xs)
    (A : Option Addr) (m c : Nat) (news : List Value) (hx : a.eval x = .slice A m c) (hl : news.length = m * size)
    (hnews : (A = none ∧ m = 0 ∧ c = 0) ∨ ∃ ad, A = some ad ∧ ∀ j u, news[j]? = some u → w.cell? (ad.add j) = some u) (h1 : ∀ u ∈ news, u.oneCell' = true)
    (h63 : n + m ≤ maxLen) (hbytes : (n + m) * bytes ≤ 140737488355328) (hbase : base ≤ w.heap.size)
    (h : ∀ v' w', w'.ownsRow base e size v' (n + m) (xs ++ news) → w.grownBy w' v.ownBlock → (v'.ownBlock = v.ownBlock ∨ v'.ownBlock = some w.heap.size) → K (a.put o.dst v') w') :
    if Region.wanted o (yielded ops a.tmps) = true then Oper.wp P o a w K Q else E := by
  have hw : Region.wanted o (yielded ops a.tmps) = true := by simp [Region.wanted, hgd]
  rw [if_pos hw]
  obtain ⟨v', w', hr, h2, h3, h4⟩ : ∃ v' w', (Builtin.append_ #[t, t] o.type #[v, .slice A m c]).run P w = .ok v' w' ∧ w'.ownsRow base e size v' (n + m) (xs ++ news) ∧ w.grownBy w' v.ownBlock ∧ (v'.ownBlock = v.ownBlock ∨ v'.ownBlock = some w.heap.size) := by
    rcases hnews with ⟨rfl, rfl, rfl⟩ | ⟨ad, rfl, hnews⟩
    · have hn : news = [] := List.eq_nil_of_length_eq_zero (by simpa using hl)
      subst hn
      refine ⟨v, w, run_append_owned_none (P := P) (w := w) base t o.type e i size ht hi v n xs hown, ?_, ⟨rfl, rfl, rfl, Nat.le_refl _, fun _ _ _ => rfl⟩, .inl rfl⟩
      simpa using hown
    · obtain ⟨v', w', hr, h2, h3, _, h5⟩ := run_append_own_at (P := P) w base t o.type e i z size bytes ht hi hz hsize hby hzs hsz v n xs hown ad m c news hl hnews h1 h63 hbytes hbase
      exact ⟨v', w', hr, h2, h3, h5⟩
  unfold Oper.wp execOp
  simp only [ho, resolve, invoke, builtin, Sem.run_bind, Sem.run_pure, Result.andThen_ok, List.map_toArray, List.map_cons, List.map_nil, hs, hx, hr]
  exact h v' w' h2 h3 h4
theorem blk_below {w w' : World} {b : Nat} {o : Obj} (h : w.heap[b]? = some o) (hb : Below w.heap.size w w') : w'.heap[b]? = some o :=
  (hb.block b (Array.getElem?_eq_some_iff.1 h).1).trans h
/-- a block that a row's growth does not touch -/
theorem grown_block {w w' : World} {row : Option Nat} {b : Nat} {o : Obj} (h : w.grownBy w' row) (hb : w.heap[b]? = some o) (hne : row ≠ some b) : w'.heap[b]? = some o :=
  (h.block b (Array.getElem?_eq_some_iff.1 hb).1 (fun e => hne e.symm)).trans hb
theorem alloc_block {w : World} {b : Nat} {o x : Obj} (hb : w.heap[b]? = some o) : (w.alloc x).heap[b]? = some o := (Below.heap_alloc _ _ _ (Array.getElem?_eq_some_iff.1 hb).1).trans hb
theorem own_not {w : World} {B size n b : Nat} {e t : TypeId} {v : Value} {xs : List Value} {C : Array Value} {fr : Nat × Nat} (h : w.ownsRow B e size v n xs) (hb : w.heap[b]? = some (.cells C t fr)) (he : e ≠ t) : v.ownBlock ≠ some b := by
  rcases h.2 with ⟨rfl, _⟩ | ⟨g, cap, cur, rfl, _, hg, _⟩
  · intro e; cases e
  · intro e
    injection e with e
    subst e
    rw [hb] at hg
    injection hg with hg
    injection hg with _ e'
    exact he e'.symm
theorem own_formR {w : World} {B size n : Nat} {e : TypeId} {v : Value} {xs : List Value} (h : w.ownsRow B e size v n xs) : ∃ A c, v = .slice A n c := by
  rcases h.2 with ⟨hv, h0⟩ | ⟨g, cap, cur, hv, _⟩
  · exact ⟨none, 0, by rw [hv, h0]⟩
  · exact ⟨_, _, hv⟩
/-- a row that has just been made, of no elements -/
theorem own_fresh (w : World) (B : Nat) (e : TypeId) (size : Nat) (hB : B ≤ w.heap.size) : (w.alloc (.cells #[] e)).ownsRow B e size (.slice (some ⟨w.heap.size, 0, none⟩) 0 0) 0 [] :=
  ⟨by simp, .inr ⟨w.heap.size, 0, #[], rfl, hB, heap_alloc_last w _, Nat.le_refl _, by unfold maxLen; decide, by simp, by simp⟩⟩
theorem own_freshAt (w : World) (B : Nat) (e : TypeId) (size g : Nat) (hg : g = w.heap.size) (hB : B ≤ w.heap.size) : (w.alloc (.cells #[] e)).ownsRow B e size (.slice (some ⟨g, 0, none⟩) 0 0) 0 [] := by
  subst hg; exact own_fresh w B e size hB
theorem own_grown {w w' : World} {B size n m c g k : Nat} {e : TypeId} {xs : List Value} (h : w.ownsRow B e size (.slice (some ⟨g, 0, none⟩) m c) n xs) (hg : w.grownBy w' (some k)) (hne : k ≠ g) : w'.ownsRow B e size (.slice (some ⟨g, 0, none⟩) m c) n xs :=
  own_kept h fun b hb => by
    obtain rfl : g = b := by injection hb
    exact hg.block g ((h.lt g rfl).2) (fun e => hne (by injection e with e; exact e.symm))
theorem own_other {w w' : World} {B B' s s' n m : Nat} {e e' : TypeId} {kv v : Value} {xs ys : List Value} (hK : w.ownsRow B e s kv n xs) (hL : w.ownsRow B' e' s' v m ys) (he : e ≠ e') (hg : w.grownBy w' v.ownBlock) : w'.ownsRow B e s kv n xs :=
  own_kept hK fun b hb => hg.block b (hK.lt b hb).2 fun h => own_apart hK hL he b hb h.symm
theorem far_of {X w : World} {B s n g p : Nat} {e : TypeId} {lv : Value} {xs : List Value} (hL : w.ownsRow B e s lv n xs) (hat : lv.ownBlock = some g ∨ lv.ownBlock = some X.heap.size) (h1 : g ≠ p) (h2 : p < X.heap.size ∨ w.heap.size ≤ p) : lv.ownBlock ≠ some p := fun e => by
  have h3 := (hL.lt _ e).2
  rcases hat with h | h
  · rw [h] at e; injection e with e; exact h1 e
  · rw [h] at e; injection e with e; omega
theorem intro_fact {p q : Prop} (h : p) (k : p → q) : q := k h
theorem one_at {w : World} {b : Nat} {v : Value} {t : TypeId} {fr : Nat × Nat} (h : w.heap[b]? = some (.cells #[v] t fr)) : ∀ j u, [v][j]? = some u → w.cell? ((⟨b, 0, none⟩ : Addr).add j) = some u := by
  intro j u hu
  rw [Addr.add_lit, Nat.zero_add, cell_here h]
  simpa using hu
theorem five_at {w : World} {b : Nat} {v0 v1 v2 v3 v4 : Value} {t : TypeId} {fr : Nat × Nat} (h : w.heap[b]? = some (.cells #[v0, v1, v2, v3, v4] t fr)) : ∀ j u, [v0, v1, v2, v3, v4][j]? = some u → w.cell? ((⟨b, 0, none⟩ : Addr).add j) = some u := by
  intro j u hu
  rw [Addr.add_lit, Nat.zero_add, cell_here h]
  simpa using hu
theorem far_of2 {X w : World} {B s n p : Nat} {e : TypeId} {lv lv0 : Value} {xs : List Value} (hL : w.ownsRow B e s lv n xs) (hat : lv.ownBlock = lv0.ownBlock ∨ lv.ownBlock = some X.heap.size) (h1 : lv0.ownBlock ≠ some p) (h2 : p < X.heap.size) : lv.ownBlock ≠ some p := fun e => by
  rcases hat with h | h
  · rw [h] at e; exact h1 e
  · rw [h] at e; injection e with e; omega
theorem fresh_at {w : World} {b : Nat} (o : Obj) (h : b = w.heap.size) : (w.alloc o).heap[b]? = some o := by subst h; exact heap_alloc_last w o
theorem drew_block {w : World} {b : Nat} {o : Obj} (h : w.heap[b]? = some o) : w.drew.heap[b]? = some o := h
theorem own_form {w : World} {B size n : Nat} {e : TypeId} {v : Value} {xs : List Value} (h : w.ownsRow B e size v n xs) : ∃ A c, v = .slice A n c := by
  rcases h.2 with ⟨hv, h0⟩ | ⟨g, cap, cur, hv, _⟩
  · exact ⟨none, 0, by rw [hv, h0]⟩
  · exact ⟨_, _, hv⟩
theorem own_base {w : World} {B B' size n : Nat} {e : TypeId} {v : Value} {xs : List Value} (h : w.ownsRow B e size v n xs) (hB : B' ≤ B) : w.ownsRow B' e size v n xs := by
  refine ⟨h.1, ?_⟩
  rcases h.2 with h' | ⟨g, cap, cur, hv, hb, r⟩
  · exact .inl h'
  · exact .inr ⟨g, cap, cur, hv, Nat.le_trans hB hb, r⟩
/-- append onto a row of the call's own, of a slice that may be nil -/
theorem wpList_append_opt {P : Program} {w : World} {ops : Array Oper} {rest : List Oper} {o : Oper} {a : Act} {Q : Exit → Act → World → Prop} (hgd : o.guard = none) (s x : Operand) (t : TypeId)
    (ho : o.op = .call { callee := .builtin .append, args := #[s, x], argTypes := #[t, t] })
    (base : Nat) (e : TypeId) (i : TypeInfo) (z : Value) (size bytes : Nat) (ht : P.underlying t = some (.slice e)) (hi : P.info? e = some i) (hz : i.zero = some z)
    (hsize : i.size = size) (hby : i.bytes = bytes) (hzs : z.cells.size = size) (hsz : 0 < size)
    (v : Value) (n : Nat) (xs : List Value) (hs : a.eval s = v) (hown : w.ownsRow base e size v n xs)
    (A : Option Addr) (m c : Nat) (news : List Value) (hx : a.eval x = .slice A m c) (hl : news.length = m * size)
    (hnews : (A = none ∧ m = 0 ∧ c = 0) ∨ ∃ ad, A = some ad ∧ ∀ j u, news[j]? = some u → w.cell? (ad.add j) = some u) (h1 : ∀ u ∈ news, u.oneCell' = true)
    (h63 : n + m ≤ maxLen) (hbytes : (n + m) * bytes ≤ 140737488355328) (hbase : base ≤ w.heap.size)
    (h : ∀ v' w', w'.ownsRow base e size v' (n + m) (xs ++ news) → w.grownBy w' v.ownBlock → (v'.ownBlock = v.ownBlock ∨ v'.ownBlock = some w.heap.size) → wpList P ops Q rest (a.put o.dst v') w') : wpList P ops Q (o :: rest) a w :=
  wpList_step fun _ hK => step_append_opt hgd s x t ho base e i z size bytes ht hi hz hsize hby hzs hsz v n xs hs hown A m c news hx hl hnews h1 h63 hbytes hbase fun v' w' h2 h3 h4 => hK _ _ (h v' w' h2 h3 h4)
/-- behind a new block, and draws -/
theorem bel_new (w W : World) (o : Obj) (h1 : W.os = w.os) (h2 : W.tape = w.tape) (h3 : W.output = w.output) (h : W.heap = (w.alloc o).heap) : Below w.heap.size w W := by
  have hb := (Below.refl w.heap.size w).alloc (Nat.le_refl _) o
  exact ⟨h1, h2, h3, by rw [h]; exact hb.size, fun k hk => by rw [h]; exact hb.block k hk⟩
theorem own_newH (w W : World) (B g : Nat) (e : TypeId) (size : Nat) (h : W.heap = (w.alloc (.cells #[] e)).heap) (hg : g = w.heap.size) (hB : B ≤ w.heap.size) : W.ownsRow B e size (.slice (some ⟨g, 0, none⟩) 0 0) 0 [] := by
  subst hg
  refine ⟨by simp, .inr ⟨w.heap.size, 0, #[], rfl, hB, ?_, Nat.le_refl _, by unfold maxLen; decide, by simp, by simp⟩⟩
  rw [h]; exact heap_alloc_last w _
end Go.Proofs.YtobicmpgfiddhaaDoor
namespace Go.Proofs.YtobicmpgfiddhaaDoor
open Go.RowKit

/-- five cells set -/
def set5 (w : World) (b o : Nat) (c0 c1 c2 c3 c4 : Value) : World := ((((w.setCell ⟨b, o, none⟩ c0).setCell ⟨b, o + 1, none⟩ c1).setCell ⟨b, o + 2, none⟩ c2).setCell ⟨b, o + 3, none⟩ c3).setCell ⟨b, o + 4, none⟩ c4
theorem set5_there {w : World} {b o b' : Nat} {c0 c1 c2 c3 c4 : Value} (h : b' ≠ b) : (set5 w b o c0 c1 c2 c3 c4).heap[b']? = w.heap[b']? := by
  unfold set5; rw [set_there _ h, set_there _ h, set_there _ h, set_there _ h, set_there _ h]
theorem set5_size (w : World) (b o : Nat) (c0 c1 c2 c3 c4 : Value) : (set5 w b o c0 c1 c2 c3 c4).heap.size = w.heap.size := by
  unfold set5; rw [set_size, set_size, set_size, set_size, set_size]
theorem set5_here {w : World} {b o : Nat} {c0 c1 c2 c3 c4 : Value} {C : Array Value} {t : TypeId} {fr : Nat × Nat} (h : w.heap[b]? = some (.cells C t fr)) :
    (set5 w b o c0 c1 c2 c3 c4).heap[b]? = some (.cells (((((C.setIfInBounds o c0).setIfInBounds (o + 1) c1).setIfInBounds (o + 2) c2).setIfInBounds (o + 3) c3).setIfInBounds (o + 4) c4) t fr) := by
  unfold set5; exact set_here (set_here (set_here (set_here (set_here h c0) c1) c2) c3) c4
theorem set5_five {w : World} {b o : Nat} {c0 c1 c2 c3 c4 : Value} {C : Array Value} {t : TypeId} {fr : Nat × Nat} (h : w.heap[b]? = some (.cells C t fr)) (ho : o + 5 ≤ C.size) : Five (set5 w b o c0 c1 c2 c3 c4) b o [c0, c1, c2, c3, c4] := by
  have hh := set5_here (o := o) (c0 := c0) (c1 := c1) (c2 := c2) (c3 := c3) (c4 := c4) h
  refine ⟨c0, c1, c2, c3, c4, rfl, ?_, ?_, ?_, ?_, ?_⟩ <;> rw [cell_here hh] <;> simp [Array.getElem?_setIfInBounds] <;> omega
theorem set5_other {w : World} {b o : Nat} {c0 c1 c2 c3 c4 : Value} {C : Array Value} {t : TypeId} {fr : Nat × Nat} (h : w.heap[b]? = some (.cells C t fr)) {q : Nat} (hq : q < o ∨ o + 5 ≤ q) : (set5 w b o c0 c1 c2 c3 c4).cell? ⟨b, q, none⟩ = w.cell? ⟨b, q, none⟩ := by
  have hh := set5_here (o := o) (c0 := c0) (c1 := c1) (c2 := c2) (c3 := c3) (c4 := c4) h
  rw [cell_here hh, cell_here h]
  simp only [Array.getElem?_setIfInBounds]
  rw [if_neg (by omega), if_neg (by omega), if_neg (by omega), if_neg (by omega), if_neg (by omega)]
theorem set5_below {w : World} {b o B : Nat} {c0 c1 c2 c3 c4 : Value} (hB : B ≤ b) : Below B w (set5 w b o c0 c1 c2 c3 c4) := by
  unfold set5
  exact (((((Below.refl B w).setCell (p := ⟨b, o, none⟩) hB c0).setCell (p := ⟨b, o + 1, none⟩) hB c1).setCell (p := ⟨b, o + 2, none⟩) hB c2).setCell (p := ⟨b, o + 3, none⟩) hB c3).setCell (p := ⟨b, o + 4, none⟩) hB c4
theorem five_other {w : World} {b o : Nat} {c0 c1 c2 c3 c4 : Value} {C : Array Value} {t : TypeId} {fr : Nat × Nat} (h : w.heap[b]? = some (.cells C t fr)) {q : Nat} {cs : List Value} (hf : Five w b q cs) (hq : q + 5 ≤ o) : Five (set5 w b o c0 c1 c2 c3 c4) b q cs := by
  obtain ⟨d0, d1, d2, d3, d4, e, m0, m1, m2, m3, m4⟩ := hf
  exact ⟨d0, d1, d2, d3, d4, e, (set5_other h (.inl (by omega))).trans m0, (set5_other h (.inl (by omega))).trans m1, (set5_other h (.inl (by omega))).trans m2, (set5_other h (.inl (by omega))).trans m3, (set5_other h (.inl (by omega))).trans m4⟩
/-- cells in a row of five that a block holds -/
theorem five_of {w : World} {b o : Nat} {C : Array Value} {t : TypeId} {fr : Nat × Nat} (h : w.heap[b]? = some (.cells C t fr)) (ho : o + 5 ≤ C.size) : ∃ c0 c1 c2 c3 c4, w.cell? ⟨b, o, none⟩ = some c0 ∧ w.cell? ⟨b, o + 1, none⟩ = some c1 ∧ w.cell? ⟨b, o + 2, none⟩ = some c2 ∧ w.cell? ⟨b, o + 3, none⟩ = some c3 ∧ w.cell? ⟨b, o + 4, none⟩ = some c4 := by
  refine ⟨C[o]'(by omega), C[o + 1]'(by omega), C[o + 2]'(by omega), C[o + 3]'(by omega), C[o + 4]'(by omega), ?_, ?_, ?_, ?_, ?_⟩ <;> rw [cell_here h] <;> exact Array.getElem?_eq_getElem _
theorem there5 {W : World} {q g k0 k1 k2 k3 k4 : Nat} {c0 c1 c2 c3 c4 : Value} (h : q ≠ g) :
    (((((W.setCell ⟨g, k0, none⟩ c0).setCell ⟨g, k1, none⟩ c1).setCell ⟨g, k2, none⟩ c2).setCell ⟨g, k3, none⟩ c3).setCell ⟨g, k4, none⟩ c4).heap[q]? = W.heap[q]? := by
  rw [set_there _ h, set_there _ h, set_there _ h, set_there _ h, set_there _ h]
theorem cell5 {W : World} {q o g k0 k1 k2 k3 k4 : Nat} {c0 c1 c2 c3 c4 : Value} (h : q ≠ g) :
    (((((W.setCell ⟨g, k0, none⟩ c0).setCell ⟨g, k1, none⟩ c1).setCell ⟨g, k2, none⟩ c2).setCell ⟨g, k3, none⟩ c3).setCell ⟨g, k4, none⟩ c4).cell? ⟨q, o, none⟩ = W.cell? ⟨q, o, none⟩ := cell_block (there5 h)
theorem box_of {w : World} {b : Nat} {c0 c1 c2 c3 c4 : Value} {t : TypeId} (h : w.heap[b]? = some (.cells #[c0, c1, c2, c3, c4] t (0, 0))) : Box w b c0 c1 c2 c3 c4 ∧ w.frozen? ⟨b, 0, none⟩ = false ∧ w.frozen? ⟨b, 1, none⟩ = false ∧ w.frozen? ⟨b, 2, none⟩ = false ∧ w.frozen? ⟨b, 3, none⟩ = false ∧ w.frozen? ⟨b, 4, none⟩ = false :=
  ⟨⟨cell_here h, cell_here h, cell_here h, cell_here h, cell_here h⟩, frozen_here h _, frozen_here h _, frozen_here h _, frozen_here h _, frozen_here h _⟩
end Go.Proofs.YtobicmpgfiddhaaDoor
namespace Go.Proofs.YtobicmpgfiddhaaDoor
open Go.RowKit

def ksCells (ks : List (List UInt8)) : List Value := ks.map fun t => .string ⟨t.toArray⟩
theorem ksCells_snoc (ks : List (List UInt8)) (t : List UInt8) : ksCells (ks ++ [t]) = ksCells ks ++ [.string ⟨t.toArray⟩] := by simp [ksCells]
/-- what holds of group's memory behind so many keys and items -/
structure GSt (R : Nat) (kind : Int) (w wr : World) (lv kv : Value) (l : List V) (ks : List (List UInt8)) (xs : List Value) : Prop where
  var : wr.heap[R + 1]? = some (.cells #[.int .i64 kind, .int .i64 0, .string ⟨#[]⟩, lv, kv] 25 (0, 0))
  res : wr.heap[R]? = some (.cells #[.int .i64 0, .int .i64 0, .string ⟨#[]⟩, .slice none 0 0, .slice none 0 0] 25 (0, 0))
  rowL : wr.ownsRow (R + 2) 25 5 lv l.length xs
  rowK : wr.ownsRow (R + 2) 9 1 kv ks.length (ksCells ks)
  elem : ∀ i (h : i < l.length), ∃ c0 c1 c2 c3 c4 L N, xs[i * 5]? = some c0 ∧ xs[i * 5 + 1]? = some c1 ∧ xs[i * 5 + 2]? = some c2 ∧ xs[i * 5 + 3]? = some c3 ∧ xs[i * 5 + 4]? = some c4 ∧
    VIs wr L N l[i] [c0, c1, c2, c3, c4] ∧ R + 2 ≤ L ∧ N ≤ wr.heap.size ∧ ∀ g, (lv.ownBlock = some g ∨ kv.ownBlock = some g) → ¬ (L ≤ g ∧ g < N)
  low : Below R w wr
  size : R + 2 ≤ wr.heap.size
theorem GSt.later {R : Nat} {kind : Int} {w wr w1 : World} {lv kv : Value} {l : List V} {ks : List (List UInt8)} {xs : List Value} (h : GSt R kind w wr lv kv l ks xs) (hb : Below wr.heap.size wr w1) : GSt R kind w w1 lv kv l ks xs := by
  obtain ⟨h1, h2, h3, h4, h5, h6, h7⟩ := h
  refine ⟨(hb.block _ (by omega)).trans h1, (hb.block _ (by omega)).trans h2, own_below h3 hb, own_below h4 hb, fun i hi => ?_, h6.trans (hb.mono (by omega)), Nat.le_trans h7 hb.size⟩
  obtain ⟨c0, c1, c2, c3, c4, L, N, e0, e1, e2, e3, e4, hv, hL, hN, hg⟩ := h5 i hi
  exact ⟨c0, c1, c2, c3, c4, L, N, e0, e1, e2, e3, e4, hv.below (hb.mono hN), hL, Nat.le_trans hN hb.size, hg⟩
/-- a key more: behind the append, and the store of its row -/
theorem GSt.key {R : Nat} {kind : Int} {w wr w2 : World} {lv kv kv' : Value} {l : List V} {ks : List (List UInt8)} {xs : List Value} (h : GSt R kind w wr lv kv l ks xs) (t : List UInt8)
    (hown : w2.ownsRow (R + 2) 9 1 kv' (ks.length + 1) (ksCells ks ++ [.string ⟨t.toArray⟩])) (hg : wr.grownBy w2 kv.ownBlock) (hat : kv'.ownBlock = kv.ownBlock ∨ kv'.ownBlock = some wr.heap.size) :
    GSt R kind w (w2.setCell ⟨R + 1, 4, none⟩ kv') lv kv' l (ks ++ [t]) xs := by
  obtain ⟨h1, h2, h3, h4, h5, h6, h7⟩ := h
  have hlt := h4.lt
  have hltL := h3.lt
  have hsz := hg.size
  have hblk : ∀ k, k < wr.heap.size → kv.ownBlock ≠ some k → k ≠ R + 1 → (w2.setCell ⟨R + 1, 4, none⟩ kv').heap[k]? = wr.heap[k]? := fun k hk hne hk1 => (set_there _ hk1).trans (hg.block k hk (fun e => hne e.symm))
  have hR1 : w2.heap[R + 1]? = wr.heap[R + 1]? := hg.block _ (by omega) (fun e => by have := (hlt _ e.symm).1; omega)
  have hown' := hown
  refine ⟨set_here (hR1.trans h1) _, (hblk R (by omega) (fun e => by have := (hlt _ e).1; omega) (by omega)).trans h2, own_kept h3 (fun g hgl => ?_), ?_, fun i hi => ?_, ?_, by rw [set_size]; omega⟩
  · exact hblk g (hltL g hgl).2 (fun e => own_apart h3 h4 (by decide) g hgl e) (by have := (hltL g hgl).1; omega)
  · rw [ksCells_snoc, List.length_append, List.length_singleton]
    exact own_kept hown (fun g hgk => set_there _ (by have := (hown.lt g hgk).1; omega))
  · obtain ⟨c0, c1, c2, c3, c4, L, N, e0, e1, e2, e3, e4, hv, hL, hN, hgg⟩ := h5 i hi
    refine ⟨c0, c1, c2, c3, c4, L, N, e0, e1, e2, e3, e4, hv.keep2 fun p hp1 hp2 => ?_, hL, by rw [set_size]; omega, fun g hgo => ?_⟩
    · exact World.cell?_of_block (w := wr) (hblk p.block (by omega) (fun e => hgg _ (.inr e) ⟨hp1, hp2⟩) (by omega))
    · rcases hgo with e | e
      · exact hgg g (.inl e)
      · rcases hat with ha | ha
        · exact hgg g (.inr (by rw [← ha]; exact e))
        · rw [ha] at e; injection e with e; omega
  · refine (h6.trans ((Below.refl R wr).grown hg (by omega) (fun k hk => by have := (hlt k hk).1; omega))).setCell (p := ⟨R + 1, 4, none⟩) (by show R ≤ R + 1; omega) _
theorem app_at {xs : List Value} {n k : Nat} (h : xs.length = n * 5) (c0 c1 c2 c3 c4 : Value) (hk : k < 5) : (xs ++ [c0, c1, c2, c3, c4])[n * 5 + k]? = [c0, c1, c2, c3, c4][k]? := by
  rw [List.getElem?_append_right (by omega), h]
  congr 1; omega
/-- an item more -/
theorem GSt.item {R : Nat} {kind : Int} {w wr w2 : World} {lv lv' kv : Value} {l : List V} {ks : List (List UInt8)} {xs : List Value} {c0 c1 c2 c3 c4 : Value} {L0 N0 : Nat} (h : GSt R kind w wr lv kv l ks xs) (x : V)
    (hx : VIs wr L0 N0 x [c0, c1, c2, c3, c4]) (hx1 : R + 2 ≤ L0) (hx2 : N0 ≤ wr.heap.size) (hx3 : ∀ g, (lv.ownBlock = some g ∨ kv.ownBlock = some g) → ¬ (L0 ≤ g ∧ g < N0))
    (hown : w2.ownsRow (R + 2) 25 5 lv' (l.length + 1) (xs ++ [c0, c1, c2, c3, c4])) (hg : wr.grownBy w2 lv.ownBlock) (hat : lv'.ownBlock = lv.ownBlock ∨ lv'.ownBlock = some wr.heap.size) :
    GSt R kind w (w2.setCell ⟨R + 1, 3, none⟩ lv') lv' kv (l ++ [x]) ks (xs ++ [c0, c1, c2, c3, c4]) := by
  obtain ⟨h1, h2, h3, h4, h5, h6, h7⟩ := h
  have hlt := h3.lt
  have hltK := h4.lt
  have hsz := hg.size
  have hxl := h3.1
  have hblk : ∀ k, k < wr.heap.size → lv.ownBlock ≠ some k → k ≠ R + 1 → (w2.setCell ⟨R + 1, 3, none⟩ lv').heap[k]? = wr.heap[k]? := fun k hk hne hk1 => (set_there _ hk1).trans (hg.block k hk (fun e => hne e.symm))
  have hR1 : w2.heap[R + 1]? = wr.heap[R + 1]? := hg.block _ (by omega) (fun e => by have := (hlt _ e.symm).1; omega)
  have hnew : ∀ {L N : Nat}, N ≤ wr.heap.size → (∀ g, (lv.ownBlock = some g ∨ kv.ownBlock = some g) → ¬ (L ≤ g ∧ g < N)) → ∀ g, (lv'.ownBlock = some g ∨ kv.ownBlock = some g) → ¬ (L ≤ g ∧ g < N) := fun hN hgg g hgo => by
    rcases hgo with e | e
    · rcases hat with ha | ha
      · exact hgg g (.inl (by rw [← ha]; exact e))
      · rw [ha] at e; injection e with e; omega
    · exact hgg g (.inr e)
  refine ⟨set_here (hR1.trans h1) _, (hblk R (by omega) (fun e => by have := (hlt _ e).1; omega) (by omega)).trans h2, ?_, own_kept h4 (fun g hgk => ?_), fun i hi => ?_, ?_, by rw [set_size]; omega⟩
  · rw [List.length_append, List.length_singleton]
    exact own_kept hown (fun g hgk => set_there _ (by have := (hown.lt g hgk).1; omega))
  · exact hblk g (hltK g hgk).2 (fun e => own_apart h3 h4 (by decide) g e hgk) (by have := (hltK g hgk).1; omega)
  · rcases Nat.lt_or_ge i l.length with hil | hil
    · obtain ⟨d0, d1, d2, d3, d4, L, N, e0, e1, e2, e3, e4, hv, hL, hN, hgg⟩ := h5 i hil
      have hgl : (l ++ [x])[i] = l[i] := List.getElem_append_left hil
      rw [hgl]
      refine ⟨d0, d1, d2, d3, d4, L, N, ?_, ?_, ?_, ?_, ?_, hv.keep2 fun p hp1 hp2 => ?_, hL, by rw [set_size]; omega, hnew hN hgg⟩
      · rw [List.getElem?_append_left (by omega)]; exact e0
      · rw [List.getElem?_append_left (by omega)]; exact e1
      · rw [List.getElem?_append_left (by omega)]; exact e2
      · rw [List.getElem?_append_left (by omega)]; exact e3
      · rw [List.getElem?_append_left (by omega)]; exact e4
      · exact World.cell?_of_block (w := wr) (hblk p.block (by omega) (fun e => hgg _ (.inl e) ⟨hp1, hp2⟩) (by omega))
    · have hie : i = l.length := by simp at hi; omega
      subst hie
      have hgl : (l ++ [x])[l.length] = x := by simp
      rw [hgl]
      refine ⟨c0, c1, c2, c3, c4, L0, N0, app_at hxl _ _ _ _ _ (k := 0) (by decide), app_at hxl _ _ _ _ _ (k := 1) (by decide), app_at hxl _ _ _ _ _ (k := 2) (by decide), app_at hxl _ _ _ _ _ (k := 3) (by decide), app_at hxl _ _ _ _ _ (k := 4) (by decide), hx.keep2 fun p hp1 hp2 => ?_, hx1, by rw [set_size]; omega, hnew hx2 hx3⟩
      exact World.cell?_of_block (w := wr) (hblk p.block (by omega) (fun e => hx3 _ (.inl e) ⟨hp1, hp2⟩) (by omega))
  · exact (h6.trans ((Below.refl R wr).grown hg (by omega) (fun k hk => by have := (hlt k hk).1; omega))).setCell (p := ⟨R + 1, 3, none⟩) (by show R ≤ R + 1; omega) _
/-- the whole -/
theorem GSt.done {R : Nat} {kind : Int} {w wr wf : World} {lv kv : Value} {l : List V} {ks : List (List UInt8)} {xs : List Value} (h : GSt R kind w wr lv kv l ks xs) (hl : l.length ≤ 9223372036854775807) (hk : ks.length ≤ 9223372036854775807) (hz : ∀ x ∈ ks, x.length ≤ 9223372036854775807)
    (hf : ∀ b, b ≠ R → wf.heap[b]? = wr.heap[b]?) (hs : wf.heap.size = wr.heap.size) : VIs wf R wf.heap.size (.mk kind 0 [] l ks) [.int .i64 kind, .int .i64 0, .string ⟨#[]⟩, lv, kv] := by
  obtain ⟨h1, h2, h3, h4, h5, h6, h7⟩ := h
  have hcell : ∀ p : Addr, p.block ≠ R → wf.cell? p = wr.cell? p := fun p hp => World.cell?_of_block (w := wr) (hf _ hp)
  obtain ⟨A, c, rfl, hA⟩ : ∃ A c, lv = .slice A l.length c ∧ (l = [] ∨ ∃ b o, A = some ⟨b, o, none⟩ ∧ LIs wf R wf.heap.size l b o) := by
    have hc := fun g => World.ownsRow.cells (g := g) h3
    rcases h3.2 with ⟨hv, h0⟩ | ⟨g, cap, cur, hv, hB, hg, _⟩
    · exact ⟨none, 0, by rw [hv, h0], .inl (List.length_eq_zero_iff.1 h0)⟩
    · refine ⟨_, _, hv, .inr ⟨g, 0, rfl, LIs.of (by omega) (by rw [hs]; exact (Array.getElem?_eq_some_iff.1 hg).1) fun i hi => ?_⟩⟩
      obtain ⟨c0, c1, c2, c3, c4, L, N, e0, e1, e2, e3, e4, hv', hL, hN, hgg⟩ := h5 i hi
      have hcc : ∀ j u, xs[j]? = some u → wf.cell? ⟨g, 0 + j, none⟩ = some u := fun j u hu => by
        rw [hcell _ (by show g ≠ R; omega)]
        have := hc g (by rw [hv]; rfl) j u hu
        rwa [Addr.add_lit] at this
      refine ⟨[c0, c1, c2, c3, c4], ⟨c0, c1, c2, c3, c4, rfl, hcc _ _ e0, hcc _ _ e1, hcc _ _ e2, hcc _ _ e3, hcc _ _ e4⟩, ?_⟩
      exact (hv'.keep2 fun p hp1 hp2 => hcell p (by omega)).more (by omega) (by omega)
  obtain ⟨A', c', rfl, hA'⟩ : ∃ A c, kv = .slice A ks.length c ∧ (ks = [] ∨ ∃ b o, A = some ⟨b, o, none⟩ ∧ KIs wf R wf.heap.size ks b o) := by
    have hc := fun g => World.ownsRow.cells (g := g) h4
    rcases h4.2 with ⟨hv, h0⟩ | ⟨g, cap, cur, hv, hB, hg, _⟩
    · exact ⟨none, 0, by rw [hv, h0], .inl (List.length_eq_zero_iff.1 h0)⟩
    · refine ⟨_, _, hv, .inr ⟨g, 0, rfl, KIs.of (by omega) (by rw [hs]; exact (Array.getElem?_eq_some_iff.1 hg).1) fun i hi => ?_⟩⟩
      rw [hcell _ (by show g ≠ R; omega)]
      have := hc g (by rw [hv]; rfl) i (.string ⟨ks[i].toArray⟩) (by unfold ksCells; rw [List.getElem?_map, List.getElem?_eq_getElem hi]; rfl)
      rwa [Addr.add_lit] at this
  exact VIs.mk (t := []) ⟨hl, hk, by simp, hz⟩ hA' hA
end Go.Proofs.YtobicmpgfiddhaaDoor
