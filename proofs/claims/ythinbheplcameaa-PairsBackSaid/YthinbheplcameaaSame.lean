/- The law's own 'same', of two slices that read as the same pairs. -/
import Derived.Test.YthinbheplcameaaGet
namespace Go.Proofs.Ythinbheplcameaa
open Go.RowKit

set_option maxRecDepth 100000 in
theorem same_any (A A' : Option Addr) (c c' B : Nat) (l : PL) (hl : l.length ≤ maxLen) (w : World) (hp : Prs w B A l) (hq : Prs w B A' l) :
    Calls Try.prog 28 #[.slice A l.length c, .slice A' l.length c'] w fun e w' => e = .returned (.bool true) ∧ ∃ q, w' = w.drewN q := by
  unfold maxLen at hl
  obtain ⟨n, hn⟩ : ∃ n, l.length = n := ⟨_, rfl⟩
  rw [hn] at hl ⊢
  have HN := Lib.hid hn; clear hn
  go_enter Try.func28, Try.ntmps28
  go_wp2
  go_loopw [5] (fun i wr => ∃ k q : Nat, k ≤ n ∧ i = .int .i64 k ∧ wr = w.drewN q) (fun i _ => n - (intOf i).toNat)
  case atStart => exact ⟨0, 0, Nat.zero_le _, rfl, rfl⟩
  case round =>
    obtain ⟨k, q, hk, rfl, rfl⟩ := hrel
    by_cases hlt : k < n
    · have hkl : k < l.length := by have := HN.out; omega
      obtain ⟨a, rfl, _, h1, h2⟩ := hp k hkl
      obtain ⟨b, rfl, _, h3, h4⟩ := hq k hkl
      generalize l[k] = x at *
      obtain ⟨xa, xb⟩ := x
      dsimp only at h1 h2 h3 h4
      go_wp2
      go_quiet (fail)
      go_wp2
      go_roundw
      case rel => exact ⟨k + 1, q + nq, by omega, by go_num, rfl⟩
      case measure => simp [intOf]; omega
    · go_wp2
      go_ret
      exact ⟨rfl, q, rfl⟩
end Go.Proofs.Ythinbheplcameaa
