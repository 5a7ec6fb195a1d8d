/- pairs.Get and the reference's; a slice that reads as pairs. -/
import Derived.Test.YthinbheplcameaaPrs
namespace Go.Proofs.Ythinbheplcameaa
open Go.RowKit

/-- a slice's cells read as these pairs, and lie below block B -/
def Prs (w : World) (B : Nat) (A : Option Addr) (l : PL) : Prop :=
  ∀ k (h : k < l.length), ∃ a : Addr, A = some a ∧ a.block < B ∧ w.cell? (a.add (k * 2)) = some (.string ⟨l[k].1.toArray⟩) ∧ w.cell? ⟨(a.add (k * 2)).block, (a.add (k * 2)).off + 1, none⟩ = some (.string ⟨l[k].2.toArray⟩)
theorem add_block (a : Addr) (n : Nat) : (a.add n).block = a.block := by unfold Addr.add; split <;> rfl
theorem add_next (a : Addr) (n : Nat) : (⟨(a.add n).block, (a.add n).off + 1, none⟩ : Addr) = a.add (n + 1) := by
  unfold Addr.add
  by_cases h : n = 0
  · simp [h]
  · simp [h]; omega
theorem Prs.keep {w w' : World} {B : Nat} {A : Option Addr} {l : PL} (h : Prs w B A l) (hk : ∀ p : Addr, p.block < B → w'.cell? p = w.cell? p) : Prs w' B A l := fun k hl => by
  obtain ⟨a, e, hb, h1, h2⟩ := h k hl
  exact ⟨a, e, hb, (hk _ (by rw [add_block]; exact hb)).trans h1, (hk _ (by show (a.add (k * 2)).block < B; rw [add_block]; exact hb)).trans h2⟩
theorem Prs.below {w w' : World} {B : Nat} {A : Option Addr} {l : PL} (h : Prs w B A l) (hb : Below B w w') : Prs w' B A l := h.keep fun _ hp => hb.cell hp
theorem Prs.more {w : World} {B B' : Nat} {A : Option Addr} {l : PL} (h : Prs w B A l) (hB : B ≤ B') : Prs w B' A l := fun k hl => by
  obtain ⟨a, e, hb, h1, h2⟩ := h k hl
  exact ⟨a, e, by omega, h1, h2⟩
theorem Prs.nil (w : World) (B : Nat) (A : Option Addr) : Prs w B A [] := fun _ hl => absurd hl (Nat.not_lt_zero _)
/-- a row of the call's own reads as its pairs -/
theorem PRow.reads {w : World} {B : Nat} {v : Value} {l : PL} (h : PRow w B v l) : ∃ A c, v = .slice A l.length c ∧ Prs w w.heap.size A l := by
  rcases h.2 with ⟨rfl, h0⟩ | ⟨g, cap, cur, rfl, hB, hg, _⟩
  · obtain rfl : l = [] := List.length_eq_zero_iff.1 h0
    exact ⟨none, 0, rfl, Prs.nil _ _ _⟩
  · refine ⟨_, _, rfl, fun k hk => ⟨_, rfl, (Array.getElem?_eq_some_iff.1 hg).1, ?_, ?_⟩⟩
    · exact h.cells (g := g) rfl _ _ (pcells_key l k hk)
    · rw [add_next]
      exact h.cells (g := g) rfl _ _ (pcells_val l k hk)
theorem getL_hit {l : PL} {key : List UInt8} {k : Nat} (hk : k < l.length) (hb : ∀ j (hj : j < l.length), j < k → l[j].1 ≠ key) (hh : l[k].1 = key) : getL l key = some l[k].2 := by
  have : l.find? (fun p => p.1 == key) = some l[k] := by
    rw [List.find?_eq_some_iff_getElem]
    refine ⟨by simpa using hh, k, hk, rfl, fun j hj => ?_⟩
    simpa using hb j (by omega) hj
  unfold getL; rw [this]; rfl
theorem getL_none {l : PL} {key : List UInt8} (hb : ∀ j (hj : j < l.length), l[j].1 ≠ key) : getL l key = none := by
  have : l.find? (fun p => p.1 == key) = none := by
    rw [List.find?_eq_none]
    intro x hx
    obtain ⟨j, hj, rfl⟩ := List.getElem_of_mem hx
    simpa using hb j hj
  unfold getL; rw [this]; rfl
theorem below_next {l : PL} {key : List UInt8} {k : Nat} (hk : k < l.length) (hb : ∀ j (hj : j < l.length), j < k → l[j].1 ≠ key) (hh : l[k].1 ≠ key) : ∀ j (hj : j < l.length), j < k + 1 → l[j].1 ≠ key := fun j hj h => by
  rcases Nat.lt_succ_iff_lt_or_eq.1 h with h | h
  · exact hb j hj h
  · subst h; exact hh

set_option maxRecDepth 100000 in
theorem refGet_any (A : Option Addr) (c B : Nat) (l : PL) (key : List UInt8) (hl : l.length ≤ maxLen) (w : World) (hp : Prs w B A l) :
    Calls Try.prog 32 #[.slice A l.length c, .string ⟨key.toArray⟩] w fun e w' => e = .returned (.string ⟨((getL l key).getD []).toArray⟩) ∧ w = w' := by
  unfold maxLen at hl
  obtain ⟨n, hn⟩ : ∃ n, l.length = n := ⟨_, rfl⟩
  rw [hn] at hl ⊢
  have HN := Lib.hid hn; clear hn
  go_enter Try.func32, Try.ntmps32
  go_wp2
  go_loop [5] (fun i => ∃ k : Nat, k ≤ n ∧ i = .int .i64 k ∧ ∀ j (hj : j < l.length), j < k → l[j].1 ≠ key) (fun i => n - (intOf i).toNat)
  case atStart => exact ⟨0, Nat.zero_le _, rfl, fun _ _ h => absurd h (Nat.not_lt_zero _)⟩
  case round =>
    obtain ⟨k, hk, rfl, hb⟩ := hrel
    have HB := Lib.hid hb; clear hb
    by_cases hlt : k < n
    · have hkl : k < l.length := by have := HN.out; omega
      obtain ⟨a, rfl, _, h1, h2⟩ := hp k hkl
      have g1 := @getL_hit l key k hkl
      have g2 := @below_next l key k hkl
      have G1 := Lib.hid g1; have G2 := Lib.hid g2; clear g1 g2
      generalize l[k] = x at *
      obtain ⟨xa, xb⟩ := x
      dsimp only at h1 h2
      by_cases hx : xa = key
      · have hbe : (xa == key) = true := by simpa using hx
        have HG := Lib.hid (G1.out HB.out hx); clear hx G1 G2
        go_wp2
        go_ret
        exact ⟨by rw [HG.out]; rfl, rfl⟩
      · have hbe : (xa == key) = false := by simpa using hx
        have HG := Lib.hid (G2.out HB.out hx); clear hx G1 G2
        go_wp2
        go_round
        case rel => exact ⟨k + 1, by omega, by go_num, HG.out⟩
        case measure => simp [intOf]; omega
    · have hke : k = n := by omega
      subst hke
      go_wp2
      go_ret
      have hN : getL l key = none := getL_none fun j hj => HB.out j hj (by have := HN.out; omega)
      exact ⟨by rw [hN]; rfl, rfl⟩
set_option maxRecDepth 100000 in
theorem get_any (A : Option Addr) (c B : Nat) (l : PL) (key : List UInt8) (hl : l.length ≤ maxLen) (w : World) (hB : B ≤ w.heap.size) (hp : Prs w B A l) :
    Calls Try.prog 31 #[.slice A l.length c, .string ⟨key.toArray⟩] w fun e w' => e = .returned (.tuple #[.string ⟨((getL l key).getD []).toArray⟩, .bool (getL l key).isSome]) ∧ Below w.heap.size w w' := by
  unfold maxLen at hl
  obtain ⟨n, hn⟩ : ∃ n, l.length = n := ⟨_, rfl⟩
  rw [hn] at hl ⊢
  have HN := Lib.hid hn; clear hn
  go_enter Try.func31, Try.ntmps31
  go_wp2
  go_loopw [10] (fun i wr => ∃ k : Nat, k ≤ n ∧ i = .int .i64 k ∧ (∀ j (hj : j < l.length), j < k → l[j].1 ≠ key) ∧ Below w.heap.size w wr) (fun i _ => n - (intOf i).toNat)
  case atStart => exact ⟨0, Nat.zero_le _, rfl, fun _ _ h => absurd h (Nat.not_lt_zero _), Below.refl _ _⟩
  case round =>
    obtain ⟨k, hk, rfl, hb, hbw⟩ := hrel
    have HB := Lib.hid hb; clear hb
    have hbs := hbw.size
    by_cases hlt : k < n
    · have hkl : k < l.length := by have := HN.out; omega
      obtain ⟨a, rfl, hab, h1, h2⟩ := (hp.below (hbw.mono hB)) k hkl
      have g1 := @getL_hit l key k hkl
      have g2 := @below_next l key k hkl
      have G1 := Lib.hid g1; have G2 := Lib.hid g2; clear g1 g2
      generalize l[k] = x at *
      obtain ⟨xa, xb⟩ := x
      dsimp only at h1 h2
      by_cases hx : xa = key
      · have hbe : (xa == key) = true := by simpa using hx
        have HG := Lib.hid (G1.out HB.out hx); clear hx G1 G2 hp
        go_wp2
        go_ret2
        exact ⟨by rw [HG.out]; rfl, hbw.alloc hbs _⟩
      · have hbe : (xa == key) = false := by simpa using hx
        have HG := Lib.hid (G2.out HB.out hx); clear hx G1 G2
        go_wp2
        go_roundw
        case rel => exact ⟨k + 1, by omega, by go_num, HG.out, hbw.alloc hbs _⟩
        case measure => simp [intOf]; omega
    · have hke : k = n := by omega
      subst hke
      go_wp2
      go_ret2
      have hN : getL l key = none := getL_none fun j hj => HB.out j hj (by have := HN.out; omega)
      exact ⟨by rw [hN]; rfl, hbw⟩
end Go.Proofs.Ythinbheplcameaa
