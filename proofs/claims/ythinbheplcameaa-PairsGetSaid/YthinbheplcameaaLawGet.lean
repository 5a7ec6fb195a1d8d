/- The walk of PairsGet. -/
import Derived.Test.YthinbheplcameaaAns2
import Derived.Test.YthinbheplcameaaTwice
namespace Go.Proofs.Ythinbheplcameaa
open Go.RowKit

def hasK (l : PL) (key : List UInt8) (k : Nat) : Bool := (l.take k).any (fun p => p.1 == key)
theorem hasK_next (l : PL) (key : List UInt8) (k : Nat) (h : k < l.length) : hasK l key (k + 1) = (hasK l key k || l[k].1 == key) := by
  unfold hasK; rw [List.take_succ_eq_append_getElem h, List.any_append]; simp
theorem hasK_all (l : PL) (key : List UInt8) : hasK l key l.length = (getL l key).isSome := by
  unfold hasK getL; rw [List.take_length, Option.isSome_map, Bool.eq_iff_iff, List.find?_isSome, List.any_eq_true]

set_option maxRecDepth 100000 in
set_option maxHeartbeats 1000000 in
theorem pairsGet_walk (A : Option Addr) (c B : Nat) (l : PL) (key : List UInt8) (hl : l.length ≤ maxLen) (hz : ∀ p ∈ l, p.1.length ≤ maxLen) (w : World) (hB : B ≤ w.heap.size) (hp : Prs w B A l) :
    Calls Try.prog 12 #[.slice A l.length c, .string ⟨key.toArray⟩] w fun e w' => e = .returned (.bool true) ∧ Below w.heap.size w w' := by
  have hl0 := hl
  unfold maxLen at hl
  by_cases h100 : 100 < l.length
  · go_enter Try.func12, Try.ntmps12
    go_wp2_with fail
    refine (answers2_any _).mono ?_
    rintro e w3 ⟨rfl, hb3⟩
    go_wp2
    go_ret
    exact ⟨rfl, hb3⟩
  · have hl1 : l.length ≤ 100 := by omega
    have hget := get_any A c B l key hl0
    have hrget := refGet_any A c B l key hl0
    have htw := twice_any A c B l (by omega) hz
    have hrtw := refTwice_any A c B l hl0
    have hall := hasK_all l key
    obtain ⟨n, hn⟩ : ∃ n, l.length = n := ⟨_, rfl⟩
    rw [hn] at hl hl0 hl1 hget hrget htw hrtw hall ⊢
    have HN := Lib.hid hn; have HALL := Lib.hid hall; clear hn hall hz h100 hl0
    generalize (getL l key).getD [] = G at *
    generalize twiceB l = T at *
    go_enter Try.func12, Try.ntmps12
    go_wp2
    go_loop [5, 6] (fun b i => ∃ k : Nat, k ≤ n ∧ i = .int .i64 k ∧ b = .bool (hasK l key k)) (fun _ i => n - (intOf i).toNat)
    case atStart => exact ⟨0, Nat.zero_le _, rfl, rfl⟩
    case round =>
      obtain ⟨k, hk, rfl, rfl⟩ := hrel
      by_cases hlt : k < n
      · have hkl : k < l.length := by have := HN.out; omega
        obtain ⟨a, rfl, hab, h1, h2⟩ := hp k hkl
        have g1 := hasK_next l key k hkl
        have G1 := Lib.hid g1; clear g1
        generalize l[k] = x at *
        obtain ⟨xa, xb⟩ := x
        dsimp only at h1 h2
        generalize hasK l key k = b at *
        cases b with
        | true =>
          go_wp2
          go_round
          case rel => exact ⟨k + 1, by omega, by go_num, by rw [G1.out]; rfl⟩
          case measure => simp [intOf]; omega
        | false =>
          go_wp2
          go_round
          case rel => exact ⟨k + 1, by omega, by go_num, by rw [G1.out]; simp⟩
          case measure => simp [intOf]; omega
      · have hke : k = n := by omega
        subst hke
        rw [HALL.out]
        generalize (getL l key).isSome = b at *
        go_wp2_with fail
        refine (hget _ hB hp).mono ?_
        rintro e w1 ⟨rfl, hb1⟩
        have hp1 := hp.below (hb1.mono hB)
        go_wp2_with fail
        refine (answers2_any _).mono ?_
        rintro e w2 ⟨rfl, hb2⟩
        have hb02 := hb1.chain hb2
        have hp2 := hp.below (hb02.mono hB)
        go_wp2_with fail
        refine (hrget _ hp2).mono ?_
        rintro e w' ⟨rfl, rfl⟩
        go_wp2_with fail
        refine (htw _ (Nat.le_trans hB hb02.size) hp2).mono ?_
        rintro e w4 ⟨rfl, hb4⟩
        have hb04 := hb02.chain hb4
        have hp4 := hp.below (hb04.mono hB)
        go_wp2_with fail
        refine (hrtw _ hp4).mono ?_
        rintro e w5 ⟨rfl, q, rfl⟩
        go_wp2
        go_ret
        exact ⟨by simp, belowDrewN hb04 q⟩
theorem pairsGet_law {w : World} (A : Option Addr) (c : Nat) (l : PL) (key : ByteArray) (h : Prs w w.heap.size A l ∧ l.length ≤ reachBytes ∧ ∀ p ∈ l, p.1.length ≤ reachBytes ∧ p.2.length ≤ reachBytes) (_ : key.size ≤ maxLen) :
    Calls Try.prog 12 #[.slice A l.length c, .string key] w fun e w' => e = .returned (.bool true) ∧ Below w.heap.size w w' := by
  have := pairsGet_walk A c w.heap.size l key.data.toList (Nat.le_trans h.2.1 (by decide)) (fun p hp => Nat.le_trans (h.2.2 p hp).1 (by decide)) w (Nat.le_refl _) h.1
  rwa [← str_eta] at this
end Go.Proofs.Ythinbheplcameaa
