/- Texts merged by program, in build order: JsonMem, JsonGood, JsonSet, JsonGroup0, JsonItems, JsonQuote. -/
import Derived.Test.YthbbeojhipcjiaaDoorJso01
import Derived.Maps.AppendAt
import Derived.Deep.WholeRow
namespace Go.Proofs.YthbbeojhipcjiaaDoor
open Go.RowKit

theorem sizes_cons (v : V) (r : List V) : V.sizes (v :: r) = 1 + v.size + V.sizes r := by conv => lhs; unfold V.sizes
theorem size_mk (k n : Int) (t : List UInt8) (l : List V) (ks : List (List UInt8)) : (V.mk k n t l ks).size = 2 + V.sizes l := by unfold V.size; rfl
theorem sizes_get : ∀ (l : List V) (i : Nat) (h : i < l.length), l[i].size < 1 + V.sizes l
  | [], i, h => absurd h (Nat.not_lt_zero _)
  | v :: r, 0, _ => by rw [sizes_cons]; show v.size < _; omega
  | v :: r, i + 1, h => by
    have hi : i < r.length := by simpa using h
    have := sizes_get r i hi
    rw [sizes_cons]; show r[i].size < _; omega
theorem size_get {k n : Int} {t : List UInt8} {l : List V} {ks : List (List UInt8)} (i : Nat) (h : i < l.length) : l[i].size < (V.mk k n t l ks).size := by
  have := sizes_get l i h
  rw [size_mk]; omega
/-- five cells in a row -/
def Five (w : World) (b o : Nat) (cs : List Value) : Prop :=
  ∃ c0 c1 c2 c3 c4, cs = [c0, c1, c2, c3, c4] ∧ w.cell? ⟨b, o, none⟩ = some c0 ∧ w.cell? ⟨b, o + 1, none⟩ = some c1 ∧ w.cell? ⟨b, o + 2, none⟩ = some c2 ∧ w.cell? ⟨b, o + 3, none⟩ = some c3 ∧ w.cell? ⟨b, o + 4, none⟩ = some c4
theorem Five.keep {w w' : World} {b o N : Nat} {cs : List Value} (h : Five w b o cs) (hb : b < N) (hk : ∀ p : Addr, p.block < N → w'.cell? p = w.cell? p) : Five w' b o cs := by
  obtain ⟨c0, c1, c2, c3, c4, e, h0, h1, h2, h3, h4⟩ := h
  exact ⟨c0, c1, c2, c3, c4, e, (hk _ hb).trans h0, (hk _ hb).trans h1, (hk _ hb).trans h2, (hk _ hb).trans h3, (hk _ hb).trans h4⟩
/-- texts in a row, one a cell -/
def KIs (w : World) (L N : Nat) : List (List UInt8) → Nat → Nat → Prop
  | [], _, _ => True
  | t :: r, b, o => L ≤ b ∧ b < N ∧ w.cell? ⟨b, o, none⟩ = some (.string ⟨t.toArray⟩) ∧ KIs w L N r b (o + 1)
/-- no length is greater than a length may be -/
def Room (t : List UInt8) (ll : Nat) (ks : List (List UInt8)) : Prop := ll ≤ 9223372036854775807 ∧ ks.length ≤ 9223372036854775807 ∧ t.length ≤ 9223372036854775807 ∧ ∀ x ∈ ks, x.length ≤ 9223372036854775807
mutual
/-- these five cells read as the value; its memory lies in blocks from L on, below N -/
def VIs (w : World) (L N : Nat) : V → List Value → Prop
  | .mk k n t l ks, cs => Room t l.length ks ∧ ∃ A c A' c', cs = [.int .i64 k, .int .i64 n, .string ⟨t.toArray⟩, .slice A l.length c, .slice A' ks.length c'] ∧
      (ks = [] ∨ ∃ b o, A' = some ⟨b, o, none⟩ ∧ KIs w L N ks b o) ∧ (l = [] ∨ ∃ b o, A = some ⟨b, o, none⟩ ∧ LIs w L N l b o)
/-- values in a row, five cells each -/
def LIs (w : World) (L N : Nat) : List V → Nat → Nat → Prop
  | [], _, _ => True
  | v :: r, b, o => L ≤ b ∧ b < N ∧ (∃ cs, Five w b o cs ∧ VIs w L N v cs) ∧ LIs w L N r b (o + 5)
end
theorem KIs.keep {w w' : World} {L N : Nat} (hk : ∀ p : Addr, p.block < N → w'.cell? p = w.cell? p) : ∀ {ks : List (List UInt8)} {b o : Nat}, KIs w L N ks b o → KIs w' L N ks b o
  | [], _, _, _ => trivial
  | _ :: _, _, _, ⟨h1, h2, h3, h4⟩ => ⟨h1, h2, (hk _ h2).trans h3, KIs.keep hk h4⟩
theorem KIs.more {w : World} {L N L' N' : Nat} (hL : L' ≤ L) (hN : N ≤ N') : ∀ {ks : List (List UInt8)} {b o : Nat}, KIs w L N ks b o → KIs w L' N' ks b o
  | [], _, _, _ => trivial
  | _ :: _, _, _, ⟨h1, h2, h3, h4⟩ => ⟨Nat.le_trans hL h1, Nat.lt_of_lt_of_le h2 hN, h3, KIs.more hL hN h4⟩
theorem KIs.get {w : World} {L N : Nat} : ∀ {ks : List (List UInt8)} {b o : Nat}, KIs w L N ks b o → ∀ i (h : i < ks.length), L ≤ b ∧ b < N ∧ w.cell? ⟨b, o + i, none⟩ = some (.string ⟨ks[i].toArray⟩)
  | [], _, _, _, i, h => absurd h (Nat.not_lt_zero _)
  | _ :: _, _, _, ⟨h1, h2, h3, _⟩, 0, _ => ⟨h1, h2, h3⟩
  | t :: r, b, o, ⟨h1, h2, _, h4⟩, i + 1, h => by
    have := KIs.get h4 i (by simpa using h)
    rw [Nat.add_assoc, Nat.add_comm 1 i] at this
    exact this
theorem KIs.of {w : World} {L N b : Nat} (hL : L ≤ b) (hN : b < N) : ∀ {ks : List (List UInt8)} {o : Nat}, (∀ i (h : i < ks.length), w.cell? ⟨b, o + i, none⟩ = some (.string ⟨ks[i].toArray⟩)) → KIs w L N ks b o
  | [], _, _ => trivial
  | t :: r, o, h => ⟨hL, hN, h 0 (by simp), KIs.of hL hN (ks := r) (o := o + 1) fun i hi => by
      have := h (i + 1) (by simpa using hi)
      have e : o + (i + 1) = o + 1 + i := by omega
      rw [e] at this
      exact this⟩
mutual
theorem VIs.keep {w w' : World} {L N : Nat} (hk : ∀ p : Addr, p.block < N → w'.cell? p = w.cell? p) : ∀ {v : V} {cs : List Value}, VIs w L N v cs → VIs w' L N v cs
  | .mk k n t l ks, cs, h => by
    unfold VIs at h ⊢
    obtain ⟨hl, A, c, A', c', e, h1, h2⟩ := h
    refine ⟨hl, A, c, A', c', e, ?_, ?_⟩
    · rcases h1 with h1 | ⟨b, o, e1, h1⟩
      · exact .inl h1
      · exact .inr ⟨b, o, e1, h1.keep hk⟩
    · rcases h2 with h2 | ⟨b, o, e1, h2⟩
      · exact .inl h2
      · exact .inr ⟨b, o, e1, LIs.keep hk h2⟩
theorem LIs.keep {w w' : World} {L N : Nat} (hk : ∀ p : Addr, p.block < N → w'.cell? p = w.cell? p) : ∀ {l : List V} {b o : Nat}, LIs w L N l b o → LIs w' L N l b o
  | [], _, _, _ => by unfold LIs; trivial
  | v :: r, b, o, h => by
    unfold LIs at h ⊢
    obtain ⟨h1, h2, ⟨cs, h3, h4⟩, h5⟩ := h
    exact ⟨h1, h2, ⟨cs, h3.keep h2 hk, VIs.keep hk h4⟩, LIs.keep hk h5⟩
end
mutual
theorem VIs.more {w : World} {L N L' N' : Nat} (hL : L' ≤ L) (hN : N ≤ N') : ∀ {v : V} {cs : List Value}, VIs w L N v cs → VIs w L' N' v cs
  | .mk k n t l ks, cs, h => by
    unfold VIs at h ⊢
    obtain ⟨hl, A, c, A', c', e, h1, h2⟩ := h
    refine ⟨hl, A, c, A', c', e, ?_, ?_⟩
    · rcases h1 with h1 | ⟨b, o, e1, h1⟩
      · exact .inl h1
      · exact .inr ⟨b, o, e1, h1.more hL hN⟩
    · rcases h2 with h2 | ⟨b, o, e1, h2⟩
      · exact .inl h2
      · exact .inr ⟨b, o, e1, LIs.more hL hN h2⟩
theorem LIs.more {w : World} {L N L' N' : Nat} (hL : L' ≤ L) (hN : N ≤ N') : ∀ {l : List V} {b o : Nat}, LIs w L N l b o → LIs w L' N' l b o
  | [], _, _, _ => by unfold LIs; trivial
  | v :: r, b, o, h => by
    unfold LIs at h ⊢
    obtain ⟨h1, h2, ⟨cs, h3, h4⟩, h5⟩ := h
    exact ⟨Nat.le_trans hL h1, Nat.lt_of_lt_of_le h2 hN, ⟨cs, h3, VIs.more hL hN h4⟩, LIs.more hL hN h5⟩
end
theorem KIs.keep2 {w w' : World} {L N : Nat} (hk : ∀ p : Addr, L ≤ p.block → p.block < N → w'.cell? p = w.cell? p) : ∀ {ks : List (List UInt8)} {b o : Nat}, KIs w L N ks b o → KIs w' L N ks b o
  | [], _, _, _ => trivial
  | _ :: _, _, _, ⟨h1, h2, h3, h4⟩ => ⟨h1, h2, (hk _ h1 h2).trans h3, KIs.keep2 hk h4⟩
mutual
theorem VIs.keep2 {w w' : World} {L N : Nat} (hk : ∀ p : Addr, L ≤ p.block → p.block < N → w'.cell? p = w.cell? p) : ∀ {v : V} {cs : List Value}, VIs w L N v cs → VIs w' L N v cs
  | .mk k n t l ks, cs, h => by
    unfold VIs at h ⊢
    obtain ⟨hl, A, c, A', c', e, h1, h2⟩ := h
    refine ⟨hl, A, c, A', c', e, ?_, ?_⟩
    · rcases h1 with h1 | ⟨b, o, e1, h1⟩
      · exact .inl h1
      · exact .inr ⟨b, o, e1, h1.keep2 hk⟩
    · rcases h2 with h2 | ⟨b, o, e1, h2⟩
      · exact .inl h2
      · exact .inr ⟨b, o, e1, LIs.keep2 hk h2⟩
theorem LIs.keep2 {w w' : World} {L N : Nat} (hk : ∀ p : Addr, L ≤ p.block → p.block < N → w'.cell? p = w.cell? p) : ∀ {l : List V} {b o : Nat}, LIs w L N l b o → LIs w' L N l b o
  | [], _, _, _ => by unfold LIs; trivial
  | v :: r, b, o, h => by
    unfold LIs at h ⊢
    obtain ⟨h1, h2, ⟨cs, h3, h4⟩, h5⟩ := h
    obtain ⟨c0, c1, c2, c3, c4, e, m0, m1, m2, m3, m4⟩ := h3
    exact ⟨h1, h2, ⟨cs, ⟨c0, c1, c2, c3, c4, e, (hk _ h1 h2).trans m0, (hk _ h1 h2).trans m1, (hk _ h1 h2).trans m2, (hk _ h1 h2).trans m3, (hk _ h1 h2).trans m4⟩, VIs.keep2 hk h4⟩, LIs.keep2 hk h5⟩
end
theorem VIs.below {w w' : World} {L N : Nat} {v : V} {cs : List Value} (h : VIs w L N v cs) (hb : Below N w w') : VIs w' L N v cs := h.keep fun _ hp => hb.cell hp
theorem LIs.below {w w' : World} {L N b o : Nat} {l : List V} (h : LIs w L N l b o) (hb : Below N w w') : LIs w' L N l b o := h.keep fun _ hp => hb.cell hp
theorem KIs.below {w w' : World} {L N b o : Nat} {l : List (List UInt8)} (h : KIs w L N l b o) (hb : Below N w w') : KIs w' L N l b o := h.keep fun _ hp => hb.cell hp
/-- element i of a row of values -/
theorem LIs.get {w : World} {L N : Nat} : ∀ {l : List V} {b o : Nat}, LIs w L N l b o → ∀ i (h : i < l.length), L ≤ b ∧ b < N ∧ ∃ cs, Five w b (o + i * 5) cs ∧ VIs w L N l[i] cs
  | [], _, _, _, i, h => absurd h (Nat.not_lt_zero _)
  | v :: r, b, o, hl, 0, _ => by
    unfold LIs at hl
    obtain ⟨h1, h2, ⟨cs, h3, h4⟩, h5⟩ := hl
    exact ⟨h1, h2, cs, by simpa using h3, h4⟩
  | v :: r, b, o, hl, i + 1, h => by
    unfold LIs at hl
    obtain ⟨h1, h2, ⟨cs, h3, h4⟩, h5⟩ := hl
    obtain ⟨h1, h2, cs, h3, h4⟩ := LIs.get h5 i (by simpa using h)
    refine ⟨h1, h2, cs, ?_, h4⟩
    have e : o + (i + 1) * 5 = o + 5 + i * 5 := by omega
    rw [e]; exact h3
theorem LIs.of {w : World} {L N b : Nat} (hL : L ≤ b) (hN : b < N) : ∀ {l : List V} {o : Nat}, (∀ i (h : i < l.length), ∃ cs, Five w b (o + i * 5) cs ∧ VIs w L N l[i] cs) → LIs w L N l b o
  | [], _, _ => by unfold LIs; trivial
  | v :: r, o, h => by
    unfold LIs
    refine ⟨hL, hN, ?_, LIs.of hL hN fun i hi => ?_⟩
    · obtain ⟨cs, h3, h4⟩ := h 0 (by simp)
      exact ⟨cs, by simpa using h3, h4⟩
    · obtain ⟨cs, h3, h4⟩ := h (i + 1) (by simpa using hi)
      have e : o + (i + 1) * 5 = o + 5 + i * 5 := by omega
      rw [e] at h3
      exact ⟨cs, h3, by simpa using h4⟩
/-- a value's cells, and what they lead to -/
theorem VIs.out {w : World} {L N : Nat} {k n : Int} {t : List UInt8} {l : List V} {ks : List (List UInt8)} {cs : List Value} (h : VIs w L N (.mk k n t l ks) cs) :
    Room t l.length ks ∧ ∃ A c A' c', cs = [.int .i64 k, .int .i64 n, .string ⟨t.toArray⟩, .slice A l.length c, .slice A' ks.length c'] ∧
      (ks = [] ∨ ∃ b o, A' = some ⟨b, o, none⟩ ∧ KIs w L N ks b o) ∧ (l = [] ∨ ∃ b o, A = some ⟨b, o, none⟩ ∧ LIs w L N l b o) := by
  unfold VIs at h; exact h
theorem VIs.mk {w : World} {L N : Nat} {k n : Int} {t : List UInt8} {l : List V} {ks : List (List UInt8)} {A A' : Option Addr} {c c' : Nat}
    (hr : Room t l.length ks) (h1 : ks = [] ∨ ∃ b o, A' = some ⟨b, o, none⟩ ∧ KIs w L N ks b o) (h2 : l = [] ∨ ∃ b o, A = some ⟨b, o, none⟩ ∧ LIs w L N l b o) :
    VIs w L N (.mk k n t l ks) [.int .i64 k, .int .i64 n, .string ⟨t.toArray⟩, .slice A l.length c, .slice A' ks.length c'] := by
  unfold VIs; exact ⟨hr, A, c, A', c', rfl, h1, h2⟩
/-- element i of a value's row, in the walk's own words -/
theorem VIs.item {w : World} {L N : Nat} {l : List V} {A : Option Addr} (h2 : l = [] ∨ ∃ b o, A = some ⟨b, o, none⟩ ∧ LIs w L N l b o) (i : Nat) (hi : i < l.length) :
    ∃ b o, A = some ⟨b, o, none⟩ ∧ L ≤ b ∧ b < N ∧ ∃ cs, Five w b (o + i * 5) cs ∧ VIs w L N l[i] cs := by
  rcases h2 with h | ⟨b, o, e, h⟩
  · subst h; simp at hi
  · obtain ⟨h1, h2, cs, h3, h4⟩ := h.get i hi
    exact ⟨b, o, e, h1, h2, cs, h3, h4⟩
theorem VIs.key {w : World} {L N : Nat} {ks : List (List UInt8)} {A : Option Addr} (h2 : ks = [] ∨ ∃ b o, A = some ⟨b, o, none⟩ ∧ KIs w L N ks b o) (i : Nat) (hi : i < ks.length) :
    ∃ b o, A = some ⟨b, o, none⟩ ∧ L ≤ b ∧ b < N ∧ w.cell? ⟨b, o + i, none⟩ = some (.string ⟨ks[i].toArray⟩) := by
  rcases h2 with h | ⟨b, o, e, h⟩
  · subst h; simp at hi
  · obtain ⟨h1, h2, h3⟩ := h.get i hi
    exact ⟨b, o, e, h1, h2, h3⟩
/-- the cells of a row of values, one behind the other -/
theorem LIs.flat {w : World} {L N : Nat} : ∀ {l : List V} {b o : Nat}, LIs w L N l b o → ∃ news : List Value, news.length = l.length * 5 ∧ (∀ j u, news[j]? = some u → w.cell? ⟨b, o + j, none⟩ = some u) ∧ ∀ u ∈ news, u.oneCell' = true
  | [], _, _, _ => ⟨[], rfl, by simp, by simp⟩
  | v :: r, b, o, h => by
    unfold LIs at h
    obtain ⟨h1, h2, ⟨cs, ⟨c0, c1, c2, c3, c4, e, m0, m1, m2, m3, m4⟩, h4⟩, h5⟩ := h
    obtain ⟨news, n1, n2, n3⟩ := h5.flat
    obtain ⟨k, n, t', l, ks⟩ := v
    obtain ⟨-, A, c, A', c', rfl, -, -⟩ := h4.out
    injection e with e0 e; injection e with e1 e; injection e with e2 e; injection e with e3 e; injection e with e4 e
    subst e0; subst e1; subst e2; subst e3; subst e4
    refine ⟨[.int .i64 k, .int .i64 n, .string ⟨t'.toArray⟩, .slice A l.length c, .slice A' ks.length c'] ++ news, by simp only [List.length_append, n1, List.length_cons, List.length_nil]; omega, ?_, ?_⟩
    · intro j u hu
      match j, hu with
      | 0, hu => simp at hu; subst hu; exact m0
      | 1, hu => simp at hu; subst hu; exact m1
      | 2, hu => simp at hu; subst hu; exact m2
      | 3, hu => simp at hu; subst hu; exact m3
      | 4, hu => simp at hu; subst hu; exact m4
      | j + 5, hu =>
        have := n2 j u (by simpa using hu)
        have e : o + (j + 5) = o + 5 + j := by omega
        rw [e]; exact this
    · intro u hu
      rcases List.mem_append.1 hu with hu | hu
      · simp at hu; rcases hu with rfl | rfl | rfl | rfl | rfl <;> rfl
      · exact n3 u hu
/-- a variable of five cells -/
def Box (w : World) (b : Nat) (c0 c1 c2 c3 c4 : Value) : Prop :=
  w.cell? ⟨b, 0, none⟩ = some c0 ∧ w.cell? ⟨b, 1, none⟩ = some c1 ∧ w.cell? ⟨b, 2, none⟩ = some c2 ∧ w.cell? ⟨b, 3, none⟩ = some c3 ∧ w.cell? ⟨b, 4, none⟩ = some c4
theorem Box.below {w w' : World} {b : Nat} {c0 c1 c2 c3 c4 : Value} (h : Box w b c0 c1 c2 c3 c4) (hb : b < w.heap.size) (h' : Below w.heap.size w w') : Box w' b c0 c1 c2 c3 c4 :=
  ⟨(h'.cell (p := ⟨b, 0, none⟩) hb).trans h.1, (h'.cell (p := ⟨b, 1, none⟩) hb).trans h.2.1, (h'.cell (p := ⟨b, 2, none⟩) hb).trans h.2.2.1, (h'.cell (p := ⟨b, 3, none⟩) hb).trans h.2.2.2.1, (h'.cell (p := ⟨b, 4, none⟩) hb).trans h.2.2.2.2⟩
theorem Box.new (w : World) (c0 c1 c2 c3 c4 : Value) (t : TypeId) : Box (w.alloc (.cells #[c0, c1, c2, c3, c4] t)) w.heap.size c0 c1 c2 c3 c4 := by
  unfold Box; simp
theorem VIs.form {w : World} {L N : Nat} {v : V} {cs : List Value} (hv : VIs w L N v cs) : ∃ A c A' c', cs = [.int .i64 v.kind, .int .i64 v.num, .string ⟨v.text.toArray⟩, .slice A v.list.length c, .slice A' v.keys.length c'] := by
  obtain ⟨k, n, t', l, ks⟩ := v
  obtain ⟨-, A, c, A', c', rfl, -, -⟩ := hv.out
  exact ⟨A, c, A', c', rfl⟩
theorem Five.out {w : World} {b o : Nat} {cs : List Value} (h : Five w b o cs) : ∃ c0 c1 c2 c3 c4, cs = [c0, c1, c2, c3, c4] ∧ w.cell? ⟨b, o, none⟩ = some c0 ∧ w.cell? ⟨b, o + 1, none⟩ = some c1 ∧ w.cell? ⟨b, o + 2, none⟩ = some c2 ∧ w.cell? ⟨b, o + 3, none⟩ = some c3 ∧ w.cell? ⟨b, o + 4, none⟩ = some c4 := h
end Go.Proofs.YthbbeojhipcjiaaDoor
namespace Go.Proofs.YthbbeojhipcjiaaDoor
open Go.RowKit

mutual
def V.depth : V → Nat
  | .mk _ _ _ l _ => 1 + V.depths l
def V.depths : List V → Nat
  | [] => 0
  | v :: r => max v.depth (V.depths r)
end
mutual
/-- good, however deep -/
def V.good : V → Bool
  | .mk k n t l ks => headB k n t l.length ks && V.goods l
def V.goods : List V → Bool
  | [] => true
  | v :: r => v.good && V.goods r
end
theorem depth_mk (k n : Int) (t : List UInt8) (l : List V) (ks : List (List UInt8)) : (V.mk k n t l ks).depth = 1 + V.depths l := by conv => lhs; unfold V.depth
theorem depths_cons (v : V) (r : List V) : V.depths (v :: r) = max v.depth (V.depths r) := by conv => lhs; unfold V.depths
theorem depths_nil : V.depths [] = 0 := by unfold V.depths; rfl
theorem good_mk (k n : Int) (t : List UInt8) (l : List V) (ks : List (List UInt8)) : (V.mk k n t l ks).good = (headB k n t l.length ks && V.goods l) := by conv => lhs; unfold V.good
theorem goods_cons (v : V) (r : List V) : V.goods (v :: r) = (v.good && V.goods r) := by conv => lhs; unfold V.goods
theorem goods_nil : V.goods [] = true := by unfold V.goods; rfl
theorem goods_iff (l : List V) : V.goods l = true ↔ ∀ i (h : i < l.length), l[i].good = true := by
  induction l with
  | nil => simp [goods_nil]
  | cons v r ih =>
    rw [goods_cons, Bool.and_eq_true, ih]
    constructor
    · intro ⟨h1, h2⟩ i hi
      cases i with
      | zero => exact h1
      | succ i => exact h2 i (by simpa using hi)
    · intro h
      exact ⟨h 0 (by simp), fun i hi => h (i + 1) (by simpa using hi)⟩
theorem depths_iff (l : List V) (d : Nat) : V.depths l ≤ d ↔ ∀ i (h : i < l.length), l[i].depth ≤ d := by
  induction l with
  | nil => simp [depths_nil]
  | cons v r ih =>
    rw [depths_cons]
    constructor
    · intro h i hi
      cases i with
      | zero => show v.depth ≤ d; omega
      | succ i => exact ih.1 (by omega) i (by simpa using hi)
    · intro h
      have h0 := h 0 (by simp)
      have h1 := ih.2 (fun i hi => h (i + 1) (by simpa using hi))
      have h0' : v.depth ≤ d := h0
      omega
theorem fits_mk (k n : Int) (t : List UInt8) (l : List V) (ks : List (List UInt8)) (d : Nat) : (V.mk k n t l ks).fits (d + 1) = (headB k n t l.length ks && V.fitsAll l d) := by conv => lhs; unfold V.fits
theorem fits_zero (v : V) : v.fits 0 = false := by obtain ⟨k, n, t, l, ks⟩ := v; unfold V.fits; rfl
/-- good, and so deep: good, and how deep -/
theorem fits_good : ∀ (d : Nat) (v : V), v.fits d = (decide (v.depth ≤ d) && v.good)
  | 0, v => by
    rw [fits_zero]
    obtain ⟨k, n, t, l, ks⟩ := v
    rw [depth_mk]
    have : decide (1 + V.depths l ≤ 0) = false := by simp
    rw [this]; rfl
  | d + 1, v => by
    obtain ⟨k, n, t, l, ks⟩ := v
    rw [fits_mk, depth_mk, good_mk]
    have h : V.fitsAll l d = (decide (V.depths l ≤ d) && V.goods l) := by
      rw [Bool.eq_iff_iff, fitsAll_iff, Bool.and_eq_true, decide_eq_true_eq, depths_iff, goods_iff]
      constructor
      · intro h
        refine ⟨fun i hi => ?_, fun i hi => ?_⟩
        · have := h l[i] (List.getElem_mem hi)
          rw [fits_good d] at this
          simp only [Bool.and_eq_true, decide_eq_true_eq] at this
          exact this.1
        · have := h l[i] (List.getElem_mem hi)
          rw [fits_good d] at this
          simp only [Bool.and_eq_true, decide_eq_true_eq] at this
          exact this.2
      · intro ⟨h1, h2⟩ v hv
        obtain ⟨i, hi, rfl⟩ := List.getElem_of_mem hv
        rw [fits_good d, h2 i hi]
        simpa using h1 i hi
    rw [h]
    have e : decide (1 + V.depths l ≤ d + 1) = decide (V.depths l ≤ d) := by
      rw [decide_eq_decide]; omega
    rw [e]
    cases headB k n t l.length ks <;> cases decide (V.depths l ≤ d) <;> rfl
theorem good_fits {v : V} (h : v.good = true) : v.fits v.depth = true := by rw [fits_good, h]; simp
theorem fits_isgood {v : V} {d : Nat} (h : v.fits d = true) : v.good = true := by rw [fits_good] at h; simp at h; exact h.2
end Go.Proofs.YthbbeojhipcjiaaDoor
namespace Go.Proofs.YthbbeojhipcjiaaDoor
open Go.RowKit

theorem set_here {w : World} {b o : Nat} {C : Array Value} {t : TypeId} {fr : Nat × Nat} (h : w.heap[b]? = some (.cells C t fr)) (v : Value) : (w.setCell ⟨b, o, none⟩ v).heap[b]? = some (.cells (C.setIfInBounds o v) t fr) := by
  unfold World.setCell
  simp only [Array.getElem?_modify, if_true]
  rw [h]; rfl
theorem set_there {w : World} {b o b' : Nat} (v : Value) (h : b' ≠ b) : (w.setCell ⟨b, o, none⟩ v).heap[b']? = w.heap[b']? := Below.heap_setCell w ⟨b, o, none⟩ v b' h
theorem set_size (w : World) (a : Addr) (v : Value) : (w.setCell a v).heap.size = w.heap.size := by unfold World.setCell; simp
theorem cell_here {w : World} {b o : Nat} {C : Array Value} {t : TypeId} {fr : Nat × Nat} (h : w.heap[b]? = some (.cells C t fr)) : w.cell? ⟨b, o, none⟩ = C[o]? := by
  unfold World.cell?; simp only [h]; rfl
theorem cell_block {w w' : World} {b o : Nat} (h : w'.heap[b]? = w.heap[b]?) : w'.cell? ⟨b, o, none⟩ = w.cell? ⟨b, o, none⟩ := by unfold World.cell?; simp only [h]
theorem frozen_here {w : World} {b : Nat} {C : Array Value} {t : TypeId} (h : w.heap[b]? = some (.cells C t (0, 0))) (o : Nat) : w.frozen? ⟨b, o, none⟩ = false := by
  unfold World.frozen?; simp only [h]; simp
/-- five cells set -/
def set5 (w : World) (b o : Nat) (c0 c1 c2 c3 c4 : Value) : World := ((((w.setCell ⟨b, o, none⟩ c0).setCell ⟨b, o + 1, none⟩ c1).setCell ⟨b, o + 2, none⟩ c2).setCell ⟨b, o + 3, none⟩ c3).setCell ⟨b, o + 4, none⟩ c4
theorem set5_there {w : World} {b o b' : Nat} {c0 c1 c2 c3 c4 : Value} (h : b' ≠ b) : (set5 w b o c0 c1 c2 c3 c4).heap[b']? = w.heap[b']? := by
  unfold set5; rw [set_there _ h, set_there _ h, set_there _ h, set_there _ h, set_there _ h]
theorem set5_size (w : World) (b o : Nat) (c0 c1 c2 c3 c4 : Value) : (set5 w b o c0 c1 c2 c3 c4).heap.size = w.heap.size := by
  unfold set5; rw [set_size, set_size, set_size, set_size, set_size]
theorem set5_here {w : World} {b o : Nat} {c0 c1 c2 c3 c4 : Value} {C : Array Value} {t : TypeId} {fr : Nat × Nat} (h : w.heap[b]? = some (.cells C t fr)) :
    (set5 w b o c0 c1 c2 c3 c4).heap[b]? = some (.cells (((((C.setIfInBounds o c0).setIfInBounds (o + 1) c1).setIfInBounds (o + 2) c2).setIfInBounds (o + 3) c3).setIfInBounds (o + 4) c4) t fr) := by
  unfold set5; exact set_here (set_here (set_here (set_here (set_here h c0) c1) c2) c3) c4
theorem set5_five {w : World} {b o : Nat} {c0 c1 c2 c3 c4 : Value} {C : Array Value} {t : TypeId} {fr : Nat × Nat} (h : w.heap[b]? = some (.cells C t fr)) (ho : o + 5 ≤ C.size) : Five (set5 w b o c0 c1 c2 c3 c4) b o [c0, c1, c2, c3, c4] := by
  have hh := set5_here (o := o) (c0 := c0) (c1 := c1) (c2 := c2) (c3 := c3) (c4 := c4) h
  refine ⟨c0, c1, c2, c3, c4, rfl, ?_, ?_, ?_, ?_, ?_⟩ <;> rw [cell_here hh] <;> simp [Array.getElem?_setIfInBounds] <;> omega
theorem set5_other {w : World} {b o : Nat} {c0 c1 c2 c3 c4 : Value} {C : Array Value} {t : TypeId} {fr : Nat × Nat} (h : w.heap[b]? = some (.cells C t fr)) {q : Nat} (hq : q < o ∨ o + 5 ≤ q) : (set5 w b o c0 c1 c2 c3 c4).cell? ⟨b, q, none⟩ = w.cell? ⟨b, q, none⟩ := by
  have hh := set5_here (o := o) (c0 := c0) (c1 := c1) (c2 := c2) (c3 := c3) (c4 := c4) h
  rw [cell_here hh, cell_here h]
  simp only [Array.getElem?_setIfInBounds]
  rw [if_neg (by omega), if_neg (by omega), if_neg (by omega), if_neg (by omega), if_neg (by omega)]
theorem set5_below {w : World} {b o B : Nat} {c0 c1 c2 c3 c4 : Value} (hB : B ≤ b) : Below B w (set5 w b o c0 c1 c2 c3 c4) := by
  unfold set5
  exact (((((Below.refl B w).setCell (p := ⟨b, o, none⟩) hB c0).setCell (p := ⟨b, o + 1, none⟩) hB c1).setCell (p := ⟨b, o + 2, none⟩) hB c2).setCell (p := ⟨b, o + 3, none⟩) hB c3).setCell (p := ⟨b, o + 4, none⟩) hB c4
theorem five_other {w : World} {b o : Nat} {c0 c1 c2 c3 c4 : Value} {C : Array Value} {t : TypeId} {fr : Nat × Nat} (h : w.heap[b]? = some (.cells C t fr)) {q : Nat} {cs : List Value} (hf : Five w b q cs) (hq : q + 5 ≤ o) : Five (set5 w b o c0 c1 c2 c3 c4) b q cs := by
  obtain ⟨d0, d1, d2, d3, d4, e, m0, m1, m2, m3, m4⟩ := hf
  exact ⟨d0, d1, d2, d3, d4, e, (set5_other h (.inl (by omega))).trans m0, (set5_other h (.inl (by omega))).trans m1, (set5_other h (.inl (by omega))).trans m2, (set5_other h (.inl (by omega))).trans m3, (set5_other h (.inl (by omega))).trans m4⟩
/-- cells in a row of five that a block holds -/
theorem five_of {w : World} {b o : Nat} {C : Array Value} {t : TypeId} {fr : Nat × Nat} (h : w.heap[b]? = some (.cells C t fr)) (ho : o + 5 ≤ C.size) : ∃ c0 c1 c2 c3 c4, w.cell? ⟨b, o, none⟩ = some c0 ∧ w.cell? ⟨b, o + 1, none⟩ = some c1 ∧ w.cell? ⟨b, o + 2, none⟩ = some c2 ∧ w.cell? ⟨b, o + 3, none⟩ = some c3 ∧ w.cell? ⟨b, o + 4, none⟩ = some c4 := by
  refine ⟨C[o]'(by omega), C[o + 1]'(by omega), C[o + 2]'(by omega), C[o + 3]'(by omega), C[o + 4]'(by omega), ?_, ?_, ?_, ?_, ?_⟩ <;> rw [cell_here h] <;> exact Array.getElem?_eq_getElem _
theorem there5 {W : World} {q g k0 k1 k2 k3 k4 : Nat} {c0 c1 c2 c3 c4 : Value} (h : q ≠ g) :
    (((((W.setCell ⟨g, k0, none⟩ c0).setCell ⟨g, k1, none⟩ c1).setCell ⟨g, k2, none⟩ c2).setCell ⟨g, k3, none⟩ c3).setCell ⟨g, k4, none⟩ c4).heap[q]? = W.heap[q]? := by
  rw [set_there _ h, set_there _ h, set_there _ h, set_there _ h, set_there _ h]
theorem cell5 {W : World} {q o g k0 k1 k2 k3 k4 : Nat} {c0 c1 c2 c3 c4 : Value} (h : q ≠ g) :
    (((((W.setCell ⟨g, k0, none⟩ c0).setCell ⟨g, k1, none⟩ c1).setCell ⟨g, k2, none⟩ c2).setCell ⟨g, k3, none⟩ c3).setCell ⟨g, k4, none⟩ c4).cell? ⟨q, o, none⟩ = W.cell? ⟨q, o, none⟩ := cell_block (there5 h)
theorem box_of {w : World} {b : Nat} {c0 c1 c2 c3 c4 : Value} {t : TypeId} (h : w.heap[b]? = some (.cells #[c0, c1, c2, c3, c4] t (0, 0))) : Box w b c0 c1 c2 c3 c4 ∧ w.frozen? ⟨b, 0, none⟩ = false ∧ w.frozen? ⟨b, 1, none⟩ = false ∧ w.frozen? ⟨b, 2, none⟩ = false ∧ w.frozen? ⟨b, 3, none⟩ = false ∧ w.frozen? ⟨b, 4, none⟩ = false :=
  ⟨⟨cell_here h, cell_here h, cell_here h, cell_here h, cell_here h⟩, frozen_here h _, frozen_here h _, frozen_here h _, frozen_here h _, frozen_here h _⟩
end Go.Proofs.YthbbeojhipcjiaaDoor
namespace Go.Proofs.YthbbeojhipcjiaaDoor
open Go.RowKit

theorem own_below {w w' : World} {B size n : Nat} {e : TypeId} {v : Value} {xs : List Value} (h : w.ownsRow B e size v n xs) (hb : Below w.heap.size w w') : w'.ownsRow B e size v n xs :=
  World.ownsRow.kept (row := none) h ⟨hb.os, hb.tape, hb.output, hb.size, fun k hk _ => hb.block k hk⟩ (by
    rcases h.2 with ⟨rfl, _⟩ | ⟨g, cap, cur, rfl, _⟩
    · exact .inl rfl
    · exact .inr (by simp [Value.ownBlock]))
theorem own_kept {w w' : World} {B size n : Nat} {e : TypeId} {v : Value} {xs : List Value} (h : w.ownsRow B e size v n xs) (hb : ∀ g, v.ownBlock = some g → w'.heap[g]? = w.heap[g]?) : w'.ownsRow B e size v n xs := by
  refine ⟨h.1, ?_⟩
  rcases h.2 with h' | ⟨g, cap, cur, hv, hB, hg, r⟩
  · exact .inl h'
  · exact .inr ⟨g, cap, cur, hv, hB, by rw [hb g (by rw [hv]; rfl)]; exact hg, r⟩
theorem own_apart {w : World} {B B' s s' n n' : Nat} {e e' : TypeId} {v v' : Value} {xs xs' : List Value} (h : w.ownsRow B e s v n xs) (h' : w.ownsRow B' e' s' v' n' xs') (he : e ≠ e') (g : Nat) (hv : v.ownBlock = some g) (hv' : v'.ownBlock = some g) : False := by
  rcases h.2 with ⟨rfl, _⟩ | ⟨k, cap, cur, rfl, _, hg, _⟩
  · cases hv
  rcases h'.2 with ⟨rfl, _⟩ | ⟨k', cap', cur', rfl, _, hg', _⟩
  · cases hv'
  · injection hv with hv; injection hv' with hv'
    subst hv; subst hv'
    rw [hg] at hg'
    injection hg' with hg'
    injection hg' with _ e
    exact he e
def ksCells (ks : List (List UInt8)) : List Value := ks.map fun t => .string ⟨t.toArray⟩
theorem ksCells_snoc (ks : List (List UInt8)) (t : List UInt8) : ksCells (ks ++ [t]) = ksCells ks ++ [.string ⟨t.toArray⟩] := by simp [ksCells]
/-- what holds of group's memory behind so many keys and items -/
structure GSt (R : Nat) (kind : Int) (w wr : World) (lv kv : Value) (l : List V) (ks : List (List UInt8)) (xs : List Value) : Prop where
  var : wr.heap[R + 1]? = some (.cells #[.int .i64 kind, .int .i64 0, .string ⟨#[]⟩, lv, kv] 28 (0, 0))
  res : wr.heap[R]? = some (.cells #[.int .i64 0, .int .i64 0, .string ⟨#[]⟩, .slice none 0 0, .slice none 0 0] 28 (0, 0))
  rowL : wr.ownsRow (R + 2) 28 5 lv l.length xs
  rowK : wr.ownsRow (R + 2) 9 1 kv ks.length (ksCells ks)
  elem : ∀ i (h : i < l.length), ∃ c0 c1 c2 c3 c4 L N, xs[i * 5]? = some c0 ∧ xs[i * 5 + 1]? = some c1 ∧ xs[i * 5 + 2]? = some c2 ∧ xs[i * 5 + 3]? = some c3 ∧ xs[i * 5 + 4]? = some c4 ∧
    VIs wr L N l[i] [c0, c1, c2, c3, c4] ∧ R + 2 ≤ L ∧ N ≤ wr.heap.size ∧ ∀ g, (lv.ownBlock = some g ∨ kv.ownBlock = some g) → ¬ (L ≤ g ∧ g < N)
  low : Below R w wr
  size : R + 2 ≤ wr.heap.size
theorem GSt.later {R : Nat} {kind : Int} {w wr w1 : World} {lv kv : Value} {l : List V} {ks : List (List UInt8)} {xs : List Value} (h : GSt R kind w wr lv kv l ks xs) (hb : Below wr.heap.size wr w1) : GSt R kind w w1 lv kv l ks xs := by
  obtain ⟨h1, h2, h3, h4, h5, h6, h7⟩ := h
  refine ⟨(hb.block _ (by omega)).trans h1, (hb.block _ (by omega)).trans h2, own_below h3 hb, own_below h4 hb, fun i hi => ?_, h6.trans (hb.mono (by omega)), Nat.le_trans h7 hb.size⟩
  obtain ⟨c0, c1, c2, c3, c4, L, N, e0, e1, e2, e3, e4, hv, hL, hN, hg⟩ := h5 i hi
  exact ⟨c0, c1, c2, c3, c4, L, N, e0, e1, e2, e3, e4, hv.below (hb.mono hN), hL, Nat.le_trans hN hb.size, hg⟩
/-- a key more: behind the append, and the store of its row -/
theorem GSt.key {R : Nat} {kind : Int} {w wr w2 : World} {lv kv kv' : Value} {l : List V} {ks : List (List UInt8)} {xs : List Value} (h : GSt R kind w wr lv kv l ks xs) (t : List UInt8)
    (hown : w2.ownsRow (R + 2) 9 1 kv' (ks.length + 1) (ksCells ks ++ [.string ⟨t.toArray⟩])) (hg : wr.grownBy w2 kv.ownBlock) (hat : kv'.ownBlock = kv.ownBlock ∨ kv'.ownBlock = some wr.heap.size) :
    GSt R kind w (w2.setCell ⟨R + 1, 4, none⟩ kv') lv kv' l (ks ++ [t]) xs := by
  obtain ⟨h1, h2, h3, h4, h5, h6, h7⟩ := h
  have hlt := h4.lt
  have hltL := h3.lt
  have hsz := hg.size
  have hblk : ∀ k, k < wr.heap.size → kv.ownBlock ≠ some k → k ≠ R + 1 → (w2.setCell ⟨R + 1, 4, none⟩ kv').heap[k]? = wr.heap[k]? := fun k hk hne hk1 => (set_there _ hk1).trans (hg.block k hk (fun e => hne e.symm))
  have hR1 : w2.heap[R + 1]? = wr.heap[R + 1]? := hg.block _ (by omega) (fun e => by have := (hlt _ e.symm).1; omega)
  have hown' := hown
  refine ⟨set_here (hR1.trans h1) _, (hblk R (by omega) (fun e => by have := (hlt _ e).1; omega) (by omega)).trans h2, own_kept h3 (fun g hgl => ?_), ?_, fun i hi => ?_, ?_, by rw [set_size]; omega⟩
  · exact hblk g (hltL g hgl).2 (fun e => own_apart h3 h4 (by decide) g hgl e) (by have := (hltL g hgl).1; omega)
  · rw [ksCells_snoc, List.length_append, List.length_singleton]
    exact own_kept hown (fun g hgk => set_there _ (by have := (hown.lt g hgk).1; omega))
  · obtain ⟨c0, c1, c2, c3, c4, L, N, e0, e1, e2, e3, e4, hv, hL, hN, hgg⟩ := h5 i hi
    refine ⟨c0, c1, c2, c3, c4, L, N, e0, e1, e2, e3, e4, hv.keep2 fun p hp1 hp2 => ?_, hL, by rw [set_size]; omega, fun g hgo => ?_⟩
    · exact World.cell?_of_block (w := wr) (hblk p.block (by omega) (fun e => hgg _ (.inr e) ⟨hp1, hp2⟩) (by omega))
    · rcases hgo with e | e
      · exact hgg g (.inl e)
      · rcases hat with ha | ha
        · exact hgg g (.inr (by rw [← ha]; exact e))
        · rw [ha] at e; injection e with e; omega
  · refine (h6.trans ((Below.refl R wr).grown hg (by omega) (fun k hk => by have := (hlt k hk).1; omega))).setCell (p := ⟨R + 1, 4, none⟩) (by show R ≤ R + 1; omega) _
theorem app_at {xs : List Value} {n k : Nat} (h : xs.length = n * 5) (c0 c1 c2 c3 c4 : Value) (hk : k < 5) : (xs ++ [c0, c1, c2, c3, c4])[n * 5 + k]? = [c0, c1, c2, c3, c4][k]? := by
  rw [List.getElem?_append_right (by omega), h]
  congr 1; omega
/-- an item more -/
theorem GSt.item {R : Nat} {kind : Int} {w wr w2 : World} {lv lv' kv : Value} {l : List V} {ks : List (List UInt8)} {xs : List Value} {c0 c1 c2 c3 c4 : Value} {L0 N0 : Nat} (h : GSt R kind w wr lv kv l ks xs) (x : V)
    (hx : VIs wr L0 N0 x [c0, c1, c2, c3, c4]) (hx1 : R + 2 ≤ L0) (hx2 : N0 ≤ wr.heap.size) (hx3 : ∀ g, (lv.ownBlock = some g ∨ kv.ownBlock = some g) → ¬ (L0 ≤ g ∧ g < N0))
    (hown : w2.ownsRow (R + 2) 28 5 lv' (l.length + 1) (xs ++ [c0, c1, c2, c3, c4])) (hg : wr.grownBy w2 lv.ownBlock) (hat : lv'.ownBlock = lv.ownBlock ∨ lv'.ownBlock = some wr.heap.size) :
    GSt R kind w (w2.setCell ⟨R + 1, 3, none⟩ lv') lv' kv (l ++ [x]) ks (xs ++ [c0, c1, c2, c3, c4]) := by
  obtain ⟨h1, h2, h3, h4, h5, h6, h7⟩ := h
  have hlt := h3.lt
  have hltK := h4.lt
  have hsz := hg.size
  have hxl := h3.1
  have hblk : ∀ k, k < wr.heap.size → lv.ownBlock ≠ some k → k ≠ R + 1 → (w2.setCell ⟨R + 1, 3, none⟩ lv').heap[k]? = wr.heap[k]? := fun k hk hne hk1 => (set_there _ hk1).trans (hg.block k hk (fun e => hne e.symm))
  have hR1 : w2.heap[R + 1]? = wr.heap[R + 1]? := hg.block _ (by omega) (fun e => by have := (hlt _ e.symm).1; omega)
  have hnew : ∀ {L N : Nat}, N ≤ wr.heap.size → (∀ g, (lv.ownBlock = some g ∨ kv.ownBlock = some g) → ¬ (L ≤ g ∧ g < N)) → ∀ g, (lv'.ownBlock = some g ∨ kv.ownBlock = some g) → ¬ (L ≤ g ∧ g < N) := fun hN hgg g hgo => by
    rcases hgo with e | e
    · rcases hat with ha | ha
      · exact hgg g (.inl (by rw [← ha]; exact e))
      · rw [ha] at e; injection e with e; omega
    · exact hgg g (.inr e)
  refine ⟨set_here (hR1.trans h1) _, (hblk R (by omega) (fun e => by have := (hlt _ e).1; omega) (by omega)).trans h2, ?_, own_kept h4 (fun g hgk => ?_), fun i hi => ?_, ?_, by rw [set_size]; omega⟩
  · rw [List.length_append, List.length_singleton]
    exact own_kept hown (fun g hgk => set_there _ (by have := (hown.lt g hgk).1; omega))
  · exact hblk g (hltK g hgk).2 (fun e => own_apart h3 h4 (by decide) g e hgk) (by have := (hltK g hgk).1; omega)
  · rcases Nat.lt_or_ge i l.length with hil | hil
    · obtain ⟨d0, d1, d2, d3, d4, L, N, e0, e1, e2, e3, e4, hv, hL, hN, hgg⟩ := h5 i hil
      have hgl : (l ++ [x])[i] = l[i] := List.getElem_append_left hil
      rw [hgl]
      refine ⟨d0, d1, d2, d3, d4, L, N, ?_, ?_, ?_, ?_, ?_, hv.keep2 fun p hp1 hp2 => ?_, hL, by rw [set_size]; omega, hnew hN hgg⟩
      · rw [List.getElem?_append_left (by omega)]; exact e0
      · rw [List.getElem?_append_left (by omega)]; exact e1
      · rw [List.getElem?_append_left (by omega)]; exact e2
      · rw [List.getElem?_append_left (by omega)]; exact e3
      · rw [List.getElem?_append_left (by omega)]; exact e4
      · exact World.cell?_of_block (w := wr) (hblk p.block (by omega) (fun e => hgg _ (.inl e) ⟨hp1, hp2⟩) (by omega))
    · have hie : i = l.length := by simp at hi; omega
      subst hie
      have hgl : (l ++ [x])[l.length] = x := by simp
      rw [hgl]
      refine ⟨c0, c1, c2, c3, c4, L0, N0, app_at hxl _ _ _ _ _ (k := 0) (by decide), app_at hxl _ _ _ _ _ (k := 1) (by decide), app_at hxl _ _ _ _ _ (k := 2) (by decide), app_at hxl _ _ _ _ _ (k := 3) (by decide), app_at hxl _ _ _ _ _ (k := 4) (by decide), hx.keep2 fun p hp1 hp2 => ?_, hx1, by rw [set_size]; omega, hnew hx2 hx3⟩
      exact World.cell?_of_block (w := wr) (hblk p.block (by omega) (fun e => hx3 _ (.inl e) ⟨hp1, hp2⟩) (by omega))
  · exact (h6.trans ((Below.refl R wr).grown hg (by omega) (fun k hk => by have := (hlt k hk).1; omega))).setCell (p := ⟨R + 1, 3, none⟩) (by show R ≤ R + 1; omega) _
/-- the whole -/
theorem GSt.done {R : Nat} {kind : Int} {w wr wf : World} {lv kv : Value} {l : List V} {ks : List (List UInt8)} {xs : List Value} (h : GSt R kind w wr lv kv l ks xs) (hl : l.length ≤ 9223372036854775807) (hk : ks.length ≤ 9223372036854775807) (hz : ∀ x ∈ ks, x.length ≤ 9223372036854775807)
    (hf : ∀ b, b ≠ R → wf.heap[b]? = wr.heap[b]?) (hs : wf.heap.size = wr.heap.size) : VIs wf R wf.heap.size (.mk kind 0 [] l ks) [.int .i64 kind, .int .i64 0, .string ⟨#[]⟩, lv, kv] := by
  obtain ⟨h1, h2, h3, h4, h5, h6, h7⟩ := h
  have hcell : ∀ p : Addr, p.block ≠ R → wf.cell? p = wr.cell? p := fun p hp => World.cell?_of_block (w := wr) (hf _ hp)
  obtain ⟨A, c, rfl, hA⟩ : ∃ A c, lv = .slice A l.length c ∧ (l = [] ∨ ∃ b o, A = some ⟨b, o, none⟩ ∧ LIs wf R wf.heap.size l b o) := by
    have hc := fun g => World.ownsRow.cells (g := g) h3
    rcases h3.2 with ⟨hv, h0⟩ | ⟨g, cap, cur, hv, hB, hg, _⟩
    · exact ⟨none, 0, by rw [hv, h0], .inl (List.length_eq_zero_iff.1 h0)⟩
    · refine ⟨_, _, hv, .inr ⟨g, 0, rfl, LIs.of (by omega) (by rw [hs]; exact (Array.getElem?_eq_some_iff.1 hg).1) fun i hi => ?_⟩⟩
      obtain ⟨c0, c1, c2, c3, c4, L, N, e0, e1, e2, e3, e4, hv', hL, hN, hgg⟩ := h5 i hi
      have hcc : ∀ j u, xs[j]? = some u → wf.cell? ⟨g, 0 + j, none⟩ = some u := fun j u hu => by
        rw [hcell _ (by show g ≠ R; omega)]
        have := hc g (by rw [hv]; rfl) j u hu
        rwa [Addr.add_lit] at this
      refine ⟨[c0, c1, c2, c3, c4], ⟨c0, c1, c2, c3, c4, rfl, hcc _ _ e0, hcc _ _ e1, hcc _ _ e2, hcc _ _ e3, hcc _ _ e4⟩, ?_⟩
      exact (hv'.keep2 fun p hp1 hp2 => hcell p (by omega)).more (by omega) (by omega)
  obtain ⟨A', c', rfl, hA'⟩ : ∃ A c, kv = .slice A ks.length c ∧ (ks = [] ∨ ∃ b o, A = some ⟨b, o, none⟩ ∧ KIs wf R wf.heap.size ks b o) := by
    have hc := fun g => World.ownsRow.cells (g := g) h4
    rcases h4.2 with ⟨hv, h0⟩ | ⟨g, cap, cur, hv, hB, hg, _⟩
    · exact ⟨none, 0, by rw [hv, h0], .inl (List.length_eq_zero_iff.1 h0)⟩
    · refine ⟨_, _, hv, .inr ⟨g, 0, rfl, KIs.of (by omega) (by rw [hs]; exact (Array.getElem?_eq_some_iff.1 hg).1) fun i hi => ?_⟩⟩
      rw [hcell _ (by show g ≠ R; omega)]
      have := hc g (by rw [hv]; rfl) i (.string ⟨ks[i].toArray⟩) (by unfold ksCells; rw [List.getElem?_map, List.getElem?_eq_getElem hi]; rfl)
      rwa [Addr.add_lit] at this
  exact VIs.mk (t := []) ⟨hl, hk, by simp, hz⟩ hA' hA
end Go.Proofs.YthbbeojhipcjiaaDoor
namespace Go.Proofs.YthbbeojhipcjiaaDoor

theorem items_nil : V.items [] = [] := by unfold V.items; rfl
theorem itemsMore_nil : V.itemsMore [] = [] := by unfold V.itemsMore; rfl
theorem itemsMore_cons (v : V) (r : List V) : V.itemsMore (v :: r) = 44 :: (v.show ++ V.itemsMore r) := by conv => lhs; unfold V.itemsMore
theorem pairs_nil (ks : List (List UInt8)) : V.pairs [] ks = [] := by unfold V.pairs; rfl
theorem pairsMore_nil (ks : List (List UInt8)) : V.pairsMore [] ks = [] := by unfold V.pairsMore; rfl
theorem pairsMore_cons (v : V) (r : List V) (ks : List (List UInt8)) : V.pairsMore (v :: r) ks = 44 :: (quoteJ (ks.headD []) ++ 58 :: (v.show ++ V.pairsMore r ks.tail)) := by conv => lhs; unfold V.pairsMore
theorem itemsMore_app (a b : List V) : V.itemsMore (a ++ b) = V.itemsMore a ++ V.itemsMore b := by
  induction a with
  | nil => rw [itemsMore_nil]; rfl
  | cons v a ih => rw [List.cons_append, itemsMore_cons, itemsMore_cons, ih]; simp
theorem items_app (v : V) (a b : List V) : V.items (v :: a ++ b) = V.items (v :: a) ++ V.itemsMore b := by
  rw [List.cons_append, items_cons, items_cons, itemsMore_app, List.append_assoc]
theorem pairsMore_app (a b : List V) : ∀ ks : List (List UInt8), V.pairsMore (a ++ b) ks = V.pairsMore a ks ++ V.pairsMore b (ks.drop a.length) := by
  induction a with
  | nil => intro ks; rw [pairsMore_nil]; rfl
  | cons v a ih =>
    intro ks
    rw [List.cons_append, pairsMore_cons, pairsMore_cons, ih]
    have e : ks.tail.drop a.length = ks.drop (v :: a).length := by rw [List.length_cons]; cases ks <;> simp
    rw [e]; simp
theorem pairs_app (v : V) (a b : List V) (ks : List (List UInt8)) : V.pairs (v :: a ++ b) ks = V.pairs (v :: a) ks ++ V.pairsMore b (ks.drop (a.length + 1)) := by
  rw [List.cons_append, pairs_cons, pairs_cons, pairsMore_app]
  have e : ks.tail.drop a.length = ks.drop (a.length + 1) := by cases ks <;> simp
  rw [e]; simp
theorem items_zero (l : List V) : V.items (l.take 0) = [] := by rw [List.take_zero]; exact items_nil
theorem items_one (l : List V) (h : 0 < l.length) : V.items (l.take (0 + 1)) = l[0].show := by
  obtain ⟨v, r, rfl⟩ : ∃ v r, l = v :: r := by cases l with | nil => simp at h | cons v r => exact ⟨v, r, rfl⟩
  show V.items [v] = _
  rw [items_cons, itemsMore_nil, List.append_nil]; rfl
theorem items_next (l : List V) (j : Nat) (h : j < l.length) (h0 : 0 < j) : V.items (l.take (j + 1)) = V.items (l.take j) ++ (44 : UInt8) :: l[j].show := by
  rw [List.take_succ_eq_append_getElem h]
  obtain ⟨v, r, e⟩ : ∃ v r, l.take j = v :: r := by
    cases hl : l.take j with
    | nil => have := congrArg List.length hl; rw [List.length_take, List.length_nil] at this; omega
    | cons v r => exact ⟨v, r, rfl⟩
  rw [e, items_app, itemsMore_cons, itemsMore_nil, List.append_nil]
theorem pairs_zero (l : List V) (ks : List (List UInt8)) : V.pairs (l.take 0) ks = [] := by rw [List.take_zero]; exact pairs_nil ks
theorem pairs_one (l : List V) (ks : List (List UInt8)) (h : 0 < l.length) (hk : 0 < ks.length) : V.pairs (l.take (0 + 1)) ks = quoteJ ks[0] ++ (58 : UInt8) :: l[0].show := by
  obtain ⟨v, r, rfl⟩ : ∃ v r, l = v :: r := by cases l with | nil => simp at h | cons v r => exact ⟨v, r, rfl⟩
  obtain ⟨k, s, rfl⟩ : ∃ v r, ks = v :: r := by cases ks with | nil => simp at hk | cons v r => exact ⟨v, r, rfl⟩
  show V.pairs [v] (k :: s) = _
  rw [pairs_cons, pairsMore_nil, List.append_nil]; rfl
theorem pairs_next (l : List V) (ks : List (List UInt8)) (j : Nat) (h : j < l.length) (hk : j < ks.length) (h0 : 0 < j) : V.pairs (l.take (j + 1)) ks = V.pairs (l.take j) ks ++ (44 : UInt8) :: (quoteJ ks[j] ++ (58 : UInt8) :: l[j].show) := by
  rw [List.take_succ_eq_append_getElem h]
  have hlen : (l.take j).length = j := by rw [List.length_take]; omega
  obtain ⟨v, r, e⟩ : ∃ v r, l.take j = v :: r := by
    cases hl : l.take j with
    | nil => have := congrArg List.length hl; rw [hlen] at this; simp at this; omega
    | cons v r => exact ⟨v, r, rfl⟩
  rw [e] at hlen ⊢
  have e2 : r.length + 1 = j := by simpa using hlen
  rw [pairs_app, pairsMore_cons, pairsMore_nil, List.append_nil, e2]
  have e3 : (ks.drop j).headD [] = ks[j] := by rw [List.drop_eq_getElem_cons hk]; rfl
  rw [e3]
theorem items_len (l : List V) (j : Nat) : (V.items (l.take j)).length ≤ (V.items l).length := by
  by_cases hz : l.take j = []
  · rw [hz, items_nil]; simp
  · obtain ⟨v, r, e⟩ : ∃ v r, l.take j = v :: r := by
      cases hl : l.take j with
      | nil => exact absurd hl hz
      | cons v r => exact ⟨v, r, rfl⟩
    have : V.items l = V.items (l.take j) ++ V.itemsMore (l.drop j) := by
      conv => lhs; rw [← List.take_append_drop j l]
      rw [e, items_app]
    rw [this, List.length_append]; omega
theorem pairs_len (l : List V) (ks : List (List UInt8)) (j : Nat) : (V.pairs (l.take j) ks).length ≤ (V.pairs l ks).length := by
  by_cases hz : l.take j = []
  · rw [hz, pairs_nil]; simp
  · obtain ⟨v, r, e⟩ : ∃ v r, l.take j = v :: r := by
      cases hl : l.take j with
      | nil => exact absurd hl hz
      | cons v r => exact ⟨v, r, rfl⟩
    have : V.pairs l ks = V.pairs (l.take j) ks ++ V.pairsMore (l.drop j) (ks.drop (r.length + 1)) := by
      conv => lhs; rw [← List.take_append_drop j l]
      rw [e, pairs_app]
    rw [this, List.length_append]; omega
theorem show_one (n : Int) (t : List UInt8) (l : List V) (ks : List (List UInt8)) : (V.mk 1 n t l ks).show = nullT := by unfold V.show; simp
theorem show_two (n : Int) (t : List UInt8) (l : List V) (ks : List (List UInt8)) : (V.mk 2 n t l ks).show = if n = 1 then trueT else falseT := by unfold V.show; simp
theorem show_three (n : Int) (t : List UInt8) (l : List V) (ks : List (List UInt8)) : (V.mk 3 n t l ks).show = decI n := by unfold V.show; simp
theorem show_four (n : Int) (t : List UInt8) (l : List V) (ks : List (List UInt8)) : (V.mk 4 n t l ks).show = quoteJ t := by unfold V.show; simp
/-- a good list's items are good -/
theorem good_item {k n : Int} {t : List UInt8} {l : List V} {ks : List (List UInt8)} (h : (V.mk k n t l ks).good = true) (i : Nat) (hi : i < l.length) : l[i].good = true := by
  rw [good_mk, Bool.and_eq_true, goods_iff] at h
  exact h.2 i hi
theorem good_head {k n : Int} {t : List UInt8} {l : List V} {ks : List (List UInt8)} (h : (V.mk k n t l ks).good = true) : HeadIs k n t l.length ks := by
  rw [good_mk, Bool.and_eq_true] at h
  exact head_says h.1
end Go.Proofs.YthbbeojhipcjiaaDoor
namespace Go.Proofs.YthbbeojhipcjiaaDoor
open Go.RowKit

def qL (l : List UInt8) : List UInt8 := l.flatMap quoteC
theorem quoteT_q (l : List UInt8) : quoteT l = qL l ++ [34] := by
  induction l with
  | nil => rfl
  | cons c r ih => rw [quoteT, ih]; simp [qL]
theorem qL_snoc (l : List UInt8) (c : UInt8) : qL (l ++ [c]) = qL l ++ quoteC c := by simp [qL]
theorem quoteC_len (c : UInt8) : (quoteC c).length ≤ 6 := by
  unfold quoteC; split
  · simp
  · split <;> simp
theorem qL_len (l : List UInt8) : (qL l).length ≤ 6 * l.length := by
  induction l with
  | nil => simp [qL]
  | cons c r ih =>
    have := quoteC_len c
    have e : qL (c :: r) = quoteC c ++ qL r := by simp [qL]
    rw [e, List.length_append, List.length_cons]; omega
theorem quoteJ_q (l : List UInt8) : quoteJ l = 34 :: qL l ++ [34] := by rw [quoteJ, quoteT_q]; rfl
def hexJs : ByteArray := ⟨#[48, 49, 50, 51, 52, 53, 54, 55, 56, 57, 97, 98, 99, 100, 101, 102]⟩
theorem hexl_all : ∀ n : Fin 16, hexJs.data.toList[n.val]? = some (hexl n.val) := by decide +kernel
theorem hexl_at {n : Nat} (h : n < hexJs.size) (h16 : n < 16) : hexJs[n] = hexl n := by
  have := hexl_all ⟨n, h16⟩
  have hl : n < hexJs.data.toList.length := h
  rw [List.getElem?_eq_getElem hl] at this
  injection this
theorem six_cells (a b c d e f : Int) : ∀ u ∈ [Value.int .u8 a, Value.int .u8 b, Value.int .u8 c, Value.int .u8 d, Value.int .u8 e, Value.int .u8 f], u.oneCell' = true := by
  intro u hu; simp at hu; rcases hu with rfl | rfl | rfl | rfl | rfl | rfl <;> rfl
theorem hexq_cells (c : UInt8) (a b : Int) (ha : a = 48 + (c.toNat : Int) / 16) (hb : b = (c.toNat : Int) % 16) (h32 : c.toNat < 32) (h2 : b.toNat < hexJs.size) :
    [Value.int .u8 92, .int .u8 117, .int .u8 48, .int .u8 48, .int .u8 a, .int .u8 (hexJs[b.toNat].toNat : Int)] = cells [92, 117, 48, 48, UInt8.ofNat (48 + c.toNat / 16), hexl (c.toNat % 16)] := by
  have h3 : hexJs[b.toNat] = hexl b.toNat := hexl_at h2 (by omega)
  generalize hexJs[b.toNat] = q at *
  subst h3
  have e2 : b.toNat = c.toNat % 16 := by omega
  have e1 : a = ((UInt8.ofNat (48 + c.toNat / 16)).toNat : Int) := by rw [UInt8.toNat_ofNat']; omega
  rw [e2, e1]; rfl
/-- a row of bytes that a literal has made -/
theorem Buf.made (w : World) (l : List UInt8) (cs : Array Value) (hc : cs.toList = cells l) (hl : l.length ≤ maxLen) : Buf (w.alloc (.cells cs 5)) w.heap.size (.slice (some ⟨w.heap.size, 0, none⟩) l.length l.length) l := by
  have hn : cs.size = l.length := by rw [← Array.length_toList, hc]; simp [cells]
  refine ⟨by simp [cells], Or.inr ⟨w.heap.size, l.length, cs, rfl, Nat.le_refl _, heap_alloc_last w _, Nat.le_refl _, hl, by omega, ?_⟩⟩
  rw [hc]; exact List.take_of_length_le (by simp [cells])
set_option maxRecDepth 100000 in
set_option maxHeartbeats 1000000 in
theorem refQuoteJ_any (s : ByteArray) (hs : s.size ≤ 20000000000000) (w : World) :
    Calls Tryd.prog 46 #[.string s] w fun e w' => e = .returned (.string ⟨(quoteJ s.data.toList).toArray⟩) ∧ Below w.heap.size w w' := by
  obtain ⟨i0, hi, hz0, hz1, hz2⟩ := info_parts Tryd.infoByte
  have hm := Buf.made w [34] #[.int .u8 34] rfl (by unfold maxLen; decide)
  have hb := (Below.refl w.heap.size w).alloc (Nat.le_refl _) (.cells #[.int .u8 34] 5)
  have HM := Lib.hid hm; have HB := Lib.hid hb; clear hm hb
  go_enter Tryd.func46, Tryd.ntmps46
  go_wp2
  go_loopw [3, 4] (fun v i wr => ∃ k : Nat, k ≤ s.size ∧ i = .int .i64 k ∧ Buf wr w.heap.size v (34 :: qL (s.data.toList.take k)) ∧ Below w.heap.size w wr) (fun _ i _ => s.size - (intOf i).toNat)
  case atStart => exact ⟨0, Nat.zero_le _, rfl, HM.out, HB.out⟩
  case round =>
    clear HM HB
    obtain ⟨k, hk, rfl, hown, hb⟩ := hrel
    have hql := qL_len (s.data.toList.take k)
    have htl : (s.data.toList.take k).length ≤ k := List.length_take_le _ _
    have hbs := hb.size
    have hlen : (34 :: qL (s.data.toList.take k)).length ≤ 120000000000001 := by rw [List.length_cons]; omega
    by_cases hlt : k < s.size
    · have hsn := take_snoc s k hlt
      have hsn2 : 34 :: qL (s.data.toList.take (k + 1)) = 34 :: qL (s.data.toList.take k) ++ quoteC s[k] := by rw [hsn, qL_snoc]; rfl
      have hu := s[k].toNat_lt
      generalize 34 :: qL (s.data.toList.take k) = acc at *
      by_cases hp : s[k] = 34 ∨ s[k] = 92
      · have hq : quoteC s[k] = [92, s[k]] := by unfold quoteC; rw [if_pos hp]
        rw [hq] at hsn2
        have HN := Lib.hid hsn2
        clear hsn2 hsn hq hql htl
        have HP := Lib.hid hp
        by_cases h34 : s[k] = 34
        · have t1 : ((s[k].toNat : Int) == 34) = true := by rw [h34]; rfl
          have H34 := Lib.hid h34; clear h34 hp
          go_wp2_with (at_builtin; refine wpList_append_own _ rfl (.tmp 29) (.tmp 33) 67 rfl w.heap.size 5 i0 _ 1 1 Tryd.underlying67 hi hz0 hz1 hz2 rfl (by decide) _ _ _ rfl (World.ownsRow.alloc hown _) ⟨_, 0, none⟩ 2 2 [.int .u8 92, .int .u8 s[k].toNat] rfl rfl (new_cells _ #[_, _] _) (two_cells _ _) (by unfold maxLen; omega) (by omega) (by simp; omega) ?_)
          intro v' w1 hown' hg' _
          have hb1 : Below w.heap.size w w1 := (hb.alloc hbs _).grown hg' (by simp; omega) (fun j hj => (hown.lt j hj).1)
          go_wp2
          go_roundw
          case rel => exact ⟨k + 1, by omega, by go_num, Buf.cut hown' (by rw [HN.out]; simp) (by rw [HN.out, cells_app]; rfl), hb1⟩
          case measure => simp [intOf]; omega
        · have h92 : s[k] = 92 := by rcases hp with h | h; exact absurd h h34; exact h
          have t1 : ((s[k].toNat : Int) == 34) = false := by rw [h92]; rfl
          have t2 : ((s[k].toNat : Int) == 92) = true := by rw [h92]; rfl
          have H34 := Lib.hid h34; have H92 := Lib.hid h92; clear h34 h92 hp
          go_wp2_with (at_builtin; refine wpList_append_own _ rfl (.tmp 29) (.tmp 33) 67 rfl w.heap.size 5 i0 _ 1 1 Tryd.underlying67 hi hz0 hz1 hz2 rfl (by decide) _ _ _ rfl (World.ownsRow.alloc hown _) ⟨_, 0, none⟩ 2 2 [.int .u8 92, .int .u8 s[k].toNat] rfl rfl (new_cells _ #[_, _] _) (two_cells _ _) (by unfold maxLen; omega) (by omega) (by simp; omega) ?_)
          intro v' w1 hown' hg' _
          have hb1 : Below w.heap.size w w1 := (hb.alloc hbs _).grown hg' (by simp; omega) (fun j hj => (hown.lt j hj).1)
          go_wp2
          go_roundw
          case rel => exact ⟨k + 1, by omega, by go_num, Buf.cut hown' (by rw [HN.out]; simp) (by rw [HN.out, cells_app]; rfl), hb1⟩
          case measure => simp [intOf]; omega
      · have h34 : s[k].toNat ≠ 34 := fun e => hp (Or.inl (UInt8.toNat_inj.1 e))
        have h92 : s[k].toNat ≠ 92 := fun e => hp (Or.inr (UInt8.toNat_inj.1 e))
        have t1 : ((s[k].toNat : Int) == 34) = false := by simp; omega
        have t2 : ((s[k].toNat : Int) == 92) = false := by simp; omega
        by_cases h32 : s[k].toNat < 32
        · have hq : quoteC s[k] = [92, 117, 48, 48, UInt8.ofNat (48 + s[k].toNat / 16), hexl (s[k].toNat % 16)] := by unfold quoteC; rw [if_neg hp, if_pos h32]
          rw [hq] at hsn2
          have t3 : decide ((s[k].toNat : Int) < 32) = true := by simp; omega
          have HN := Lib.hid hsn2; have H32 := Lib.hid h32
          have m1 : (s[k].toNat : Int).tdiv 16 = (s[k].toNat : Int) / 16 := Int.tdiv_eq_ediv_of_nonneg (by omega)
          have m2 : (s[k].toNat : Int).tmod 16 = (s[k].toNat : Int) % 16 := Int.tmod_eq_emod_of_nonneg (by omega)
          have m3 : 0 ≤ (s[k].toNat : Int) % 16 := by omega
          have m4 : (s[k].toNat : Int) % 16 < 16 := by omega
          have m5 : IntKind.u8.wrap ((s[k].toNat : Int) / 16) = (s[k].toNat : Int) / 16 := by rw [IntKind.wrap_u8]; omega
          have m6 : IntKind.u8.wrap ((s[k].toNat : Int) % 16) = (s[k].toNat : Int) % 16 := by rw [IntKind.wrap_u8]; omega
          have m7 : IntKind.u8.wrap (48 + (s[k].toNat : Int) / 16) = 48 + (s[k].toNat : Int) / 16 := by rw [IntKind.wrap_u8]; omega
          clear hsn2 hsn hq hql htl hp h34 h92 h32
          go_wp2
          go_region_held3 (fun _ => True) (trivial) ((refine step_append_own rfl (.tmp 40) (.tmp 51) 67 rfl w.heap.size 5 i0 _ 1 1 Tryd.underlying67 hi hz0 hz1 hz2 rfl (by decide) _ _ _ rfl (World.ownsRow.alloc (World.ownsRow.drew hown) _) ⟨_, 0, none⟩ 6 6 [.int .u8 92, .int .u8 117, .int .u8 48, .int .u8 48, .int .u8 _, .int .u8 _] rfl rfl (new_cells _ #[_, _, _, _, _, _] _) (six_cells _ _ _ _ _ _) (by unfold maxLen; omega) (by omega) (by simp; omega) ?_; intro v' w1 hown' hg' hn'))
          all_goals
            have hb1 : Below w.heap.size w w1 := ((hb.drew).alloc hbs _).grown hg' (by simp; omega) (fun j hj => (hown.lt j hj).1)
            go_wp2
            go_roundw
            case rel => exact ⟨k + 1, by omega, by go_num, Buf.cut hown' (by rw [HN.out]; simp) (by rw [HN.out, cells_app]; exact congrArg _ (hexq_cells s[k] _ _ rfl rfl H32.out _)), hb1⟩
            case measure => simp [intOf]; omega
        · have hq : quoteC s[k] = [s[k]] := by unfold quoteC; rw [if_neg hp, if_neg h32]
          rw [hq] at hsn2
          have t3 : decide ((s[k].toNat : Int) < 32) = false := by simp; omega
          have HN := Lib.hid hsn2; have H32 := Lib.hid h32
          clear hsn2 hsn hq hql htl hp h34 h92 h32
          go_wp2_with (at_builtin; refine wpList_append_own _ rfl (.tmp 12) (.tmp 16) 67 rfl w.heap.size 5 i0 _ 1 1 Tryd.underlying67 hi hz0 hz1 hz2 rfl (by decide) _ _ _ rfl (World.ownsRow.alloc hown _) ⟨_, 0, none⟩ 1 1 [.int .u8 s[k].toNat] rfl rfl (new_cells _ #[_] _) (one_cell _) (by unfold maxLen; omega) (by omega) (by simp; omega) ?_)
          intro v' w1 hown' hg' _
          have hb1 : Below w.heap.size w w1 := (hb.alloc hbs _).grown hg' (by simp; omega) (fun j hj => (hown.lt j hj).1)
          go_wp2
          go_roundw
          case rel => exact ⟨k + 1, by omega, by go_num, Buf.cut hown' (by rw [HN.out]; simp) (by rw [HN.out, cells_app]; rfl), hb1⟩
          case measure => simp [intOf]; omega
    · have hke : k = s.size := by omega
      subst hke
      rw [take_all] at hown hlen
      have hfin : 34 :: qL s.data.toList ++ [34] = quoteJ s.data.toList := (quoteJ_q _).symm
      generalize 34 :: qL s.data.toList = acc at *
      have HF := Lib.hid hfin
      clear hfin hql htl
      go_wp2_with (at_builtin; refine wpList_append_own _ rfl (.tmp 53) (.tmp 54) 67 rfl w.heap.size 5 i0 _ 1 1 Tryd.underlying67 hi hz0 hz1 hz2 rfl (by decide) _ _ _ rfl (World.ownsRow.alloc hown _) ⟨_, 0, none⟩ 1 1 [.int .u8 34] rfl rfl (new_cells _ #[_] _) (one_cell _) (by unfold maxLen; omega) (by omega) (by simp; omega) ?_)
      intro v' w1 hown' hg' _
      have hb1 : Below w.heap.size w w1 := (hb.alloc hbs _).grown hg' (by simp; omega) (fun j hj => (hown.lt j hj).1)
      have hbf : Buf w1 w.heap.size v' (acc ++ [34]) := Buf.cut hown' (by simp) (by rw [cells_app]; rfl)
      have hcv := hbf.text
      go_wp2
      go_ret
      exact ⟨ret_str HF.out, hb1⟩
end Go.Proofs.YthbbeojhipcjiaaDoor
