/- Bytes that a slice reads; what a call may have written. -/
import Derived.Test.YtobicmpgfiddhaaDoorCellar
namespace Go.Proofs.YtobicmpgfiddhaaDoor
open Go.RowKit
set_option linter.unusedVariables false
set_option linter.unusedSimpArgs false

/-- a slice of bytes reads as these -/
def RdAt (w : World) (v : Value) (l : List UInt8) : Prop :=
  ∃ A c, v = .slice A l.length c ∧ l.length ≤ c ∧ c ≤ 9223372036854775807 ∧ ((A = none ∧ l.length = 0 ∧ c = 0) ∨ ∃ g o, A = some ⟨g, o, none⟩ ∧ g < w.heap.size ∧ ∀ j u, (cells l)[j]? = some u → w.cell? ((⟨g, o, none⟩ : Addr).add j) = some u)
/-- only blocks of S, and new ones, are other ones -/
structure Only (S : Nat → Prop) (w w' : World) : Prop where
  os : w'.os = w.os
  tape : w'.tape = w.tape
  output : w'.output = w.output
  size : w.heap.size ≤ w'.heap.size
  block : ∀ k, k < w.heap.size → ¬ S k → w'.heap[k]? = w.heap[k]?
theorem Only.refl (S : Nat → Prop) (w : World) : Only S w w := ⟨rfl, rfl, rfl, Nat.le_refl _, fun _ _ _ => rfl⟩
theorem Only.trans {S : Nat → Prop} {a b c : World} (h : Only S a b) (k : Only S b c) : Only S a c :=
  ⟨k.os.trans h.os, k.tape.trans h.tape, k.output.trans h.output, Nat.le_trans h.size k.size, fun i hi hn => (k.block i (by have := h.size; omega) hn).trans (h.block i hi hn)⟩
/-- what the second may write, but for what was new, the first one may -/
theorem Only.then {S S' : Nat → Prop} {a b c : World} (h : Only S a b) (k : Only S' b c) (hs : ∀ i, S' i → i < a.heap.size → S i) : Only S a c :=
  ⟨k.os.trans h.os, k.tape.trans h.tape, k.output.trans h.output, Nat.le_trans h.size k.size, fun i hi hn => (k.block i (by have := h.size; omega) (fun e => hn (hs i e hi))).trans (h.block i hi hn)⟩
theorem Only.mono {S S' : Nat → Prop} {w w' : World} (h : Only S w w') (hs : ∀ i, i < w.heap.size → S i → S' i) : Only S' w w' := ⟨h.os, h.tape, h.output, h.size, fun i hi hn => h.block i hi (fun e => hn (hs i hi e))⟩
theorem Only.below {S : Nat → Prop} {w w' : World} {B : Nat} (h : Only S w w') (hB : B ≤ w.heap.size) (hs : ∀ i, S i → B ≤ i) : Below B w w' := ⟨h.os, h.tape, h.output, h.size, fun i hi => h.block i (by omega) (fun e => by have := hs i e; omega)⟩
theorem Only.of_below {S : Nat → Prop} {w w' : World} (h : Below w.heap.size w w') : Only S w w' := ⟨h.os, h.tape, h.output, h.size, fun i hi _ => h.block i hi⟩
theorem Only.of_grown {S : Nat → Prop} {w w' : World} {row : Option Nat} (h : w.grownBy w' row) (hs : ∀ i, row = some i → S i) : Only S w w' := ⟨h.os, h.tape, h.output, h.size, fun i hi hn => h.block i hi (fun e => hn (hs i e.symm))⟩
theorem Only.set {S : Nat → Prop} {w w' : World} {b o : Nat} (h : Only S w w') (hb : S b) (v : Value) : Only S w (w'.setCell ⟨b, o, none⟩ v) :=
  ⟨h.os, h.tape, h.output, by rw [set_size]; exact h.size, fun i hi hn => (set_there v (fun e => hn (by rw [e]; exact hb))).trans (h.block i hi hn)⟩
theorem Only.alloc {S : Nat → Prop} {w w' : World} (h : Only S w w') (x : Obj) : Only S w (w'.alloc x) :=
  ⟨h.os, h.tape, h.output, by simp; have := h.size; omega, fun i hi hn => (Below.heap_alloc _ _ _ (by have := h.size; omega)).trans (h.block i hi hn)⟩
theorem Only.drewN {S : Nat → Prop} {w w' : World} (h : Only S w w') (n : Nat) : Only S w (w'.drewN n) := ⟨h.os, h.tape, h.output, h.size, h.block⟩
theorem Only.drew {S : Nat → Prop} {w w' : World} (h : Only S w w') : Only S w w'.drew := ⟨h.os, h.tape, h.output, h.size, h.block⟩

theorem RdAt.keep {w w' : World} {v : Value} {l : List UInt8} (h : RdAt w v l) (hs : w.heap.size ≤ w'.heap.size) (hb : ∀ g, v.ownBlock = some g → w'.heap[g]? = w.heap[g]?) : RdAt w' v l := by
  obtain ⟨A, c, rfl, h1, h2, h3⟩ := h
  refine ⟨A, c, rfl, h1, h2, ?_⟩
  rcases h3 with h3 | ⟨g, o, rfl, hg, h3⟩
  · exact .inl h3
  · refine .inr ⟨g, o, rfl, by omega, fun j u hu => ?_⟩
    rw [← h3 j u hu]
    exact World.cell?_of_block (by rw [Addr.add_lit]; exact hb g rfl)
theorem RdAt.lt {w : World} {v : Value} {l : List UInt8} (h : RdAt w v l) {g : Nat} (hg : v.ownBlock = some g) : g < w.heap.size := by
  obtain ⟨A, c, rfl, h1, h2, h3⟩ := h
  rcases h3 with ⟨rfl, _⟩ | ⟨g', o, rfl, hg', _⟩
  · cases hg
  · injection hg with hg; rw [← hg]; exact hg'
theorem RdAt.only {S : Nat → Prop} {w w' : World} {v : Value} {l : List UInt8} (h : RdAt w v l) (ho : Only S w w') (hb : ∀ g, v.ownBlock = some g → ¬ S g) : RdAt w' v l :=
  h.keep ho.size fun g hg => ho.block g (h.lt hg) (hb g hg)
theorem RdAt.below {w w' : World} {v : Value} {l : List UInt8} (h : RdAt w v l) (hb : Below w.heap.size w w') : RdAt w' v l := h.keep hb.size fun g hg => hb.block g (h.lt hg)
theorem RdAt.nil (w : World) : RdAt w (.slice none 0 0) [] := ⟨none, 0, rfl, Nat.le_refl _, Nat.zero_le _, .inl ⟨rfl, rfl, rfl⟩⟩
/-- the first n of them -/
theorem cells_take (l : List UInt8) (n j : Nat) (u : Value) (h : (cells (l.take n))[j]? = some u) : (cells l)[j]? = some u := by
  unfold cells at h ⊢
  rw [List.getElem?_map] at h ⊢
  rw [List.getElem?_take] at h
  split at h
  · exact h
  · cases h
theorem RdAt.take {w : World} {A : Option Addr} {c : Nat} {l : List UInt8} (h : RdAt w (.slice A l.length c) l) (n : Nat) (hn : n ≤ l.length) : RdAt w (.slice A n c) (l.take n) := by
  obtain ⟨A', c', e, h1, h2, h3⟩ := h
  cases e
  have hl : (l.take n).length = n := by rw [List.length_take]; omega
  refine ⟨A, c, by rw [hl], by omega, h2, ?_⟩
  rcases h3 with ⟨rfl, h4, h5⟩ | ⟨g, o, rfl, hg, h3⟩
  · exact .inl ⟨rfl, by omega, h5⟩
  · exact .inr ⟨g, o, rfl, hg, fun j u hu => h3 j u (cells_take l n j u hu)⟩
/-- a row of the call's own reads as its bytes -/
theorem Buf.rd {w : World} {B : Nat} {v : Value} {l : List UInt8} (h : Buf w B v l) : RdAt w v l := by
  have hc := fun g => World.ownsRow.cells (g := g) h
  rcases h.2 with ⟨rfl, h0⟩ | ⟨g, cap, cur, rfl, hB, hg, h4, h5, _⟩
  · obtain rfl := List.length_eq_zero_iff.1 h0
    exact RdAt.nil w
  · refine ⟨_, cap, rfl, ?_, ?_, .inr ⟨g, 0, rfl, (Array.getElem?_eq_some_iff.1 hg).1, hc g rfl⟩⟩
    · omega
    · unfold maxLen at *; omega
/-- an empty literal -/
theorem own_empty (w : World) : (w.alloc (.cells #[] 5)).ownsRow w.heap.size 5 1 (.slice (some ⟨w.heap.size, 0, none⟩) 0 0) 0 [] := ⟨by simp, Or.inr ⟨w.heap.size, 0, #[], rfl, Nat.le_refl _, heap_alloc_last w _, Nat.le_refl _, by unfold maxLen; decide, by simp, by simp⟩⟩
/-- what an append takes of it -/
theorem RdAt.news {w : World} {v : Value} {l : List UInt8} (h : RdAt w v l) : ∃ A c, v = .slice A l.length c ∧ ((A = none ∧ l.length = 0 ∧ c = 0) ∨ ∃ ad, A = some ad ∧ ∀ j u, (cells l)[j]? = some u → w.cell? (ad.add j) = some u) := by
  obtain ⟨A, c, rfl, h1, h2, h3⟩ := h
  refine ⟨A, c, rfl, ?_⟩
  rcases h3 with h3 | ⟨g, o, rfl, hg, h3⟩
  · exact .inl h3
  · exact .inr ⟨_, rfl, h3⟩
/-- 'string(b)' -/
theorem RdAt.text {w : World} {v : Value} {l : List UInt8} (h : RdAt w v l) : (convert 46 9 v).run Tryd.prog w = .ok (.string ⟨l.toArray⟩) w := by
  obtain ⟨A, c, rfl, h1, h2, h3⟩ := h
  rcases h3 with ⟨rfl, h0, rfl⟩ | ⟨g, o, rfl, hg, h3⟩
  · obtain rfl : l = [] := List.length_eq_zero_iff.1 h0
    show (convert 46 9 (.slice none 0 0)).run Tryd.prog w = _
    rw [run_convert_bytes_string (P := Tryd.prog) w 46 9 5 none 0 0 Tryd.underlying46 Tryd.underlying5 Tryd.underlying9]
    rfl
  · exact run_convert_bytes_back (P := Tryd.prog) w 46 9 5 ⟨g, o, none⟩ c l Tryd.underlying46 Tryd.underlying5 Tryd.underlying9 (fun j hj => h3 j _ (by simp [cells, hj]))

/-! ### bytes within an argument: where there is no room at all, nothing is known of the block -/
def rdBlock : Value → Option Nat
  | .slice (some a) _ c => if c = 0 then none else some a.block
  | _ => none
def RdW (w : World) (v : Value) (l : List UInt8) : Prop :=
  ∃ A c, v = .slice A l.length c ∧ l.length ≤ c ∧ c ≤ 9223372036854775807 ∧ ((l.length = 0 ∧ c = 0) ∨ ∃ g o, A = some ⟨g, o, none⟩ ∧ g < w.heap.size ∧ ∀ j u, (cells l)[j]? = some u → w.cell? ((⟨g, o, none⟩ : Addr).add j) = some u)
theorem RdAt.weak {w : World} {v : Value} {l : List UInt8} (h : RdAt w v l) : RdW w v l := by
  obtain ⟨A, c, rfl, h1, h2, h3⟩ := h
  exact ⟨A, c, rfl, h1, h2, h3.imp (fun h => h.2) id⟩
theorem rdBlock_own {v : Value} {g : Nat} (h : rdBlock v = some g) : v.ownBlock = some g := by
  unfold rdBlock at h
  split at h
  · split at h
    · cases h
    · exact h
  · cases h
theorem RdW.lt {w : World} {v : Value} {l : List UInt8} (h : RdW w v l) {g : Nat} (hg : rdBlock v = some g) : g < w.heap.size := by
  obtain ⟨A, c, rfl, h1, h2, h3⟩ := h
  rcases h3 with ⟨_, rfl⟩ | ⟨g', o, rfl, hg', _⟩
  · cases A <;> simp [rdBlock] at hg
  · have hg := rdBlock_own hg
    injection hg with hg
    rw [← hg]
    exact hg'
theorem RdW.keep {w w' : World} {v : Value} {l : List UInt8} (h : RdW w v l) (hs : w.heap.size ≤ w'.heap.size) (hb : ∀ g, rdBlock v = some g → w'.heap[g]? = w.heap[g]?) : RdW w' v l := by
  obtain ⟨A, c, rfl, h1, h2, h3⟩ := h
  refine ⟨A, c, rfl, h1, h2, ?_⟩
  by_cases hc : c = 0
  · exact .inl ⟨by omega, hc⟩
  rcases h3 with h3 | ⟨g, o, rfl, hg, h3⟩
  · exact .inl h3
  · refine .inr ⟨g, o, rfl, by omega, fun j u hu => ?_⟩
    rw [← h3 j u hu]
    exact World.cell?_of_block (by rw [Addr.add_lit]; exact hb g (by simp [rdBlock, hc]))
theorem RdW.below {w w' : World} {v : Value} {l : List UInt8} (h : RdW w v l) (hb : Below w.heap.size w w') : RdW w' v l := h.keep hb.size fun g hg => hb.block g (h.lt hg)
theorem RdW.only {S : Nat → Prop} {w w' : World} {v : Value} {l : List UInt8} (h : RdW w v l) (ho : Only S w w') (hb : ∀ g, rdBlock v = some g → ¬ S g) : RdW w' v l :=
  h.keep ho.size fun g hg => ho.block g (h.lt hg) (hb g hg)
theorem RdW.take {w : World} {A : Option Addr} {c : Nat} {l : List UInt8} (h : RdW w (.slice A l.length c) l) (n : Nat) (hn : n ≤ l.length) : RdW w (.slice A n c) (l.take n) := by
  obtain ⟨A', c', e, h1, h2, h3⟩ := h
  cases e
  have hl : (l.take n).length = n := by rw [List.length_take]; omega
  refine ⟨A, c, by rw [hl], by omega, h2, ?_⟩
  rcases h3 with ⟨h4, h5⟩ | ⟨g, o, rfl, hg, h3⟩
  · exact .inl ⟨by omega, h5⟩
  · exact .inr ⟨g, o, rfl, hg, fun j u hu => h3 j u (cells_take l n j u hu)⟩
theorem RdW.news {w : World} {v : Value} {l : List UInt8} (h : RdW w v l) : ∃ A c, v = .slice A l.length c ∧ ((A = none ∧ l.length = 0 ∧ c = 0) ∨ ∃ ad, A = some ad ∧ ∀ j u, (cells l)[j]? = some u → w.cell? (ad.add j) = some u) := by
  obtain ⟨A, c, rfl, h1, h2, h3⟩ := h
  refine ⟨A, c, rfl, ?_⟩
  rcases h3 with h3 | ⟨g, o, rfl, hg, h3⟩
  · cases A with
    | none => exact .inl ⟨rfl, h3.1, h3.2⟩
    | some ad => exact .inr ⟨ad, rfl, fun j u hu => by
        obtain rfl : l = [] := List.length_eq_zero_iff.1 h3.1
        simp [cells] at hu⟩
  · exact .inr ⟨_, rfl, h3⟩
end Go.Proofs.YtobicmpgfiddhaaDoor
