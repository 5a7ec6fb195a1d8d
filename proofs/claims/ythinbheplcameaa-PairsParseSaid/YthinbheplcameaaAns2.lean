/- The law's own 'answers' of layer 2, and PairsParse. -/
import Derived.Test.YthinbheplcameaaParse
import Derived.Test.YthinbheplcameaaForm2
import Derived.Test.YthinbheplcameaaSame
import Derived.Test.YthinbheplcameaaBuild
namespace Go.Proofs.Ythinbheplcameaa
open Go.RowKit

def ab : PL := [([97], [49]), ([98], [])]
theorem ab_parse : parseE [97, 61, 49, 38, 98] = 0 ∧ parseP [97, 61, 49, 38, 98] = ab := by decide +kernel
theorem ab_get : getL ab [97] = some [49] := by decide +kernel
theorem ab_build : buildL ab = [97, 61, 49, 38, 98, 61] := by decide +kernel

set_option maxRecDepth 100000 in
theorem answers2_any (w : World) : Calls Try.prog 27 #[] w fun e w' => e = .returned (.bool true) ∧ Below w.heap.size w w' := by
  have hp := parse_any ⟨#[97, 61, 49, 38, 98]⟩
  rw [show (ByteArray.mk #[97, 61, 49, 38, 98]).data.toList = [97, 61, 49, 38, 98] from rfl, ab_parse.1, ab_parse.2] at hp
  have hg := fun (A : Option Addr) (c B : Nat) (w : World) (hB : B ≤ w.heap.size) (h : Prs w B A ab) => get_any A c B ab [97] (by decide) w hB h
  rw [ab_get] at hg
  have hbd := fun (A : Option Addr) (c B : Nat) (w : World) (hB : B ≤ w.heap.size) (h : Prs w B A ab) => build_any A c B 100 ab (by decide) (by decide) (by decide) w hB h
  rw [ab_build] at hbd
  go_enter Try.func27, Try.ntmps27
  go_wp2_with fail
  refine (hp _).mono ?_
  rintro e w1 ⟨v, rfl, hrow, hb1⟩
  obtain ⟨A, c, rfl, hr⟩ := hrow.reads
  go_wp2_with fail
  refine (hg A c _ _ (Nat.le_refl _) hr).mono ?_
  rintro e w2 ⟨rfl, hb2⟩
  have hr2 := hr.below hb2
  go_wp2_with fail
  refine (hbd A c _ _ hb2.size hr2).mono ?_
  rintro e w3 ⟨rfl, hb3⟩
  go_wp2
  go_ret
  exact ⟨rfl, (hb1.chain hb2).chain hb3⟩
set_option maxRecDepth 100000 in
theorem pairsParse_walk (s : ByteArray) (w : World) : Calls Try.prog 10 #[.string s] w fun e w' => e = .returned (.bool true) ∧ Below w.heap.size w w' := by
  have hp := parse_any s
  have hf := form_any s
  have hl : (parseP s.data.toList).length ≤ maxLen := by
    have : (parseP s.data.toList).length ≤ 64 := by
      unfold parseP; split
      · simp
      · split
        · simp
        · split
          · simp
          · omega
    unfold maxLen; omega
  generalize parseE s.data.toList = E at *
  generalize parseP s.data.toList = P at *
  go_enter Try.func10, Try.ntmps10
  go_wp2_with fail
  refine (hp _).mono ?_
  rintro e w1 ⟨v1, rfl, hrow1, hb1⟩
  obtain ⟨A1, c1, rfl, hr1⟩ := hrow1.reads
  go_wp2_with fail
  refine (hf _).mono ?_
  rintro e w2 ⟨v2, rfl, hrow2, hb2⟩
  obtain ⟨A2, c2, rfl, hr2⟩ := hrow2.reads
  have hr1' := (hr1.below hb2).more hb2.size
  go_wp2_with fail
  refine (answers2_any _).mono ?_
  rintro e w3 ⟨rfl, hb3⟩
  have hr1'' := hr1'.below hb3
  have hr2'' := hr2.below hb3
  have hEE : (E == E) = true := by simp
  go_wp2_with fail
  refine (same_any A1 A2 c1 c2 _ P hl _ hr1'' hr2'').mono ?_
  rintro e w4 ⟨rfl, q, rfl⟩
  go_wp2
  go_ret
  exact ⟨rfl, belowDrewN ((hb1.chain hb2).chain hb3) q⟩
theorem pairsParse_law (s : ByteArray) (_ : s.size ≤ maxLen) (w : World) : Calls Try.prog 10 #[.string s] w fun e w' => e = .returned (.bool true) ∧ Below w.heap.size w w' := pairsParse_walk s w
end Go.Proofs.Ythinbheplcameaa
