/- Where a key stands first; what a field of an object is: pure. -/
import Derived.Test.YtobicmpgfiddhaaDoorJsonPure
namespace Go.Proofs.YtobicmpgfiddhaaDoor

/-- where a key stands first; their number: nowhere -/
def keyAt (key : List UInt8) : List (List UInt8) → Nat
  | [] => 0
  | k :: r => if k = key then 0 else keyAt key r + 1
theorem keyAt_le (key : List UInt8) (ks : List (List UInt8)) : keyAt key ks ≤ ks.length := by
  induction ks with
  | nil => exact Nat.le_refl _
  | cons k r ih => unfold keyAt; split <;> simp; omega
theorem keyAt_hit (key : List UInt8) : ∀ (ks : List (List UInt8)) (h : keyAt key ks < ks.length), ks[keyAt key ks] = key
  | [], h => absurd h (Nat.not_lt_zero _)
  | k :: r, h => by
    by_cases hk : k = key
    · have e : keyAt key (k :: r) = 0 := by unfold keyAt; rw [if_pos hk]
      simp only [e]; exact hk
    · have e : keyAt key (k :: r) = keyAt key r + 1 := by
        conv => lhs; unfold keyAt
        rw [if_neg hk]
      simp only [e] at h ⊢
      exact keyAt_hit key r (by simpa using h)
theorem keyAt_ahead (key : List UInt8) : ∀ (ks : List (List UInt8)) (j : Nat) (hj : j < ks.length), j < keyAt key ks → ks[j] ≠ key
  | [], j, hj, _ => absurd hj (Nat.not_lt_zero _)
  | k :: r, j, hj, h => by
    by_cases hk : k = key
    · have e : keyAt key (k :: r) = 0 := by unfold keyAt; rw [if_pos hk]
      omega
    · have e : keyAt key (k :: r) = keyAt key r + 1 := by
        conv => lhs; unfold keyAt
        rw [if_neg hk]
      cases j with
      | zero => exact hk
      | succ j => exact keyAt_ahead key r j (by simpa using hj) (by omega)
theorem keyAt_is (key : List UInt8) (ks : List (List UInt8)) (j : Nat) (hj : j < ks.length) (h : ks[j] = key) (hne : ∀ i (hi : i < ks.length), i < j → ks[i] ≠ key) : keyAt key ks = j := by
  rcases Nat.lt_trichotomy (keyAt key ks) j with h' | h' | h'
  · exact absurd (keyAt_hit key ks (by omega)) (hne _ (by omega) h')
  · exact h'
  · exact absurd h (keyAt_ahead key ks j hj h')
theorem keyAt_none (key : List UInt8) (ks : List (List UInt8)) (hne : ∀ i (hi : i < ks.length), ks[i] ≠ key) : keyAt key ks = ks.length := by
  have := keyAt_le key ks
  rcases Nat.lt_or_ge (keyAt key ks) ks.length with h | h
  · exact absurd (keyAt_hit key ks h) (hne _ h)
  · omega
/-- what Field answers -/
def fieldV (key : List UInt8) : V → Option V
  | .mk k _ _ l ks => if k = 6 ∧ keyAt key ks < ks.length then l[keyAt key ks]? else none
end Go.Proofs.YtobicmpgfiddhaaDoor
