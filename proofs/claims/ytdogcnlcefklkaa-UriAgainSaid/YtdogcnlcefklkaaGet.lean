/- pairs.Get and the reference's; a slice that reads as pairs. -/
import Derived.Test.YtdogcnlcefklkaaPrs
namespace Go.Proofs.Ytdogcnlcefklkaa
open Go.RowKit

/-- a slice's cells read as these pairs, and lie below block B -/
def Prs (w : World) (B : Nat) (A : Option Addr) (l : PL) : Prop :=
  ∀ k (h : k < l.length), ∃ a : Addr, A = some a ∧ a.block < B ∧ w.cell? (a.add (k * 2)) = some (.string ⟨l[k].1.toArray⟩) ∧ w.cell? ⟨(a.add (k * 2)).block, (a.add (k * 2)).off + 1, none⟩ = some (.string ⟨l[k].2.toArray⟩)
theorem add_block (a : Addr) (n : Nat) : (a.add n).block = a.block := by unfold Addr.add; split <;> rfl
theorem add_next (a : Addr) (n : Nat) : (⟨(a.add n).block, (a.add n).off + 1, none⟩ : Addr) = a.add (n + 1) := by
  unfold Addr.add
  by_cases h : n = 0
  · simp [h]
  · simp [h]; omega
theorem Prs.keep {w w' : World} {B : Nat} {A : Option Addr} {l : PL} (h : Prs w B A l) (hk : ∀ p : Addr, p.block < B → w'.cell? p = w.cell? p) : Prs w' B A l := fun k hl => by
  obtain ⟨a, e, hb, h1, h2⟩ := h k hl
  exact ⟨a, e, hb, (hk _ (by rw [add_block]; exact hb)).trans h1, (hk _ (by show (a.add (k * 2)).block < B; rw [add_block]; exact hb)).trans h2⟩
theorem Prs.below {w w' : World} {B : Nat} {A : Option Addr} {l : PL} (h : Prs w B A l) (hb : Below B w w') : Prs w' B A l := h.keep fun _ hp => hb.cell hp
theorem Prs.more {w : World} {B B' : Nat} {A : Option Addr} {l : PL} (h : Prs w B A l) (hB : B ≤ B') : Prs w B' A l := fun k hl => by
  obtain ⟨a, e, hb, h1, h2⟩ := h k hl
  exact ⟨a, e, by omega, h1, h2⟩
theorem Prs.nil (w : World) (B : Nat) (A : Option Addr) : Prs w B A [] := fun _ hl => absurd hl (Nat.not_lt_zero _)
/-- a row of the call's own reads as its pairs -/
theorem PRow.reads {w : World} {B : Nat} {v : Value} {l : PL} (h : PRow w B v l) : ∃ A c, v = .slice A l.length c ∧ Prs w w.heap.size A l := by
  rcases h.2 with ⟨rfl, h0⟩ | ⟨g, cap, cur, rfl, hB, hg, _⟩
  · obtain rfl : l = [] := List.length_eq_zero_iff.1 h0
    exact ⟨none, 0, rfl, Prs.nil _ _ _⟩
  · refine ⟨_, _, rfl, fun k hk => ⟨_, rfl, (Array.getElem?_eq_some_iff.1 hg).1, ?_, ?_⟩⟩
    · exact h.cells (g := g) rfl _ _ (pcells_key l k hk)
    · rw [add_next]
      exact h.cells (g := g) rfl _ _ (pcells_val l k hk)
end Go.Proofs.Ytdogcnlcefklkaa
