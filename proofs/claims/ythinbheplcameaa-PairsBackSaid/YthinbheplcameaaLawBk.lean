/- The walk of PairsBack. -/
import Derived.Test.YthinbheplcameaaAns2
import Derived.Test.YthinbheplcameaaRefBuild
namespace Go.Proofs.Ythinbheplcameaa
open Go.RowKit

theorem parse_back {l : PL} (h : (buildL l).length ≤ 4096) (h' : l.length ≤ 64) : parseE (buildL l) = 0 ∧ parseP (buildL l) = l := parse_some h (formL_buildL l) h'
theorem parse_back_no {l : PL} (h : 4096 < (buildL l).length ∨ 64 < l.length) : parseE (buildL l) = 3 ∧ parseP (buildL l) = [] := by
  by_cases h1 : 4096 < (buildL l).length
  · exact parse_large h1
  · exact parse_many (by omega) (formL_buildL l) (by omega)

set_option maxRecDepth 100000 in
set_option maxHeartbeats 1000000 in
theorem pairsBack_walk (A : Option Addr) (c B : Nat) (l : PL) (hlr : l.length ≤ reachBytes) (hz : ∀ p ∈ l, p.1.length ≤ reachBytes ∧ p.2.length ≤ reachBytes) (w : World) (hB : B ≤ w.heap.size) (hp : Prs w B A l) :
    Calls Try.prog 11 #[.slice A l.length c] w fun e w' => e = .returned (.bool true) ∧ Below w.heap.size w w' := by
  have hl0 : l.length ≤ maxLen := Nat.le_trans hlr (by decide)
  have hl := hl0
  unfold maxLen at hl
  clear hlr
  obtain ⟨n, hn⟩ : ∃ n, l.length = n := ⟨_, rfl⟩
  have hbk := @parse_back l
  have hbn := @parse_back_no l
  have hbd := fun (w : World) (hB : B ≤ w.heap.size) (hp : Prs w B A l) (h1 : l.length ≤ 200) (h2 : ∀ p ∈ l, p.1.length + p.2.length ≤ 1000) => build_any A c B 1000 l (by omega) (by omega) h2 w hB hp
  have hrb := fun (w : World) (hB : B ≤ w.heap.size) (hp : Prs w B A l) (h1 : l.length ≤ 200) (h2 : ∀ p ∈ l, p.1.length + p.2.length ≤ 1000) => refBuild_any A c B 1000 l (by omega) (by omega) h2 w hB hp
  have hpz := parse_any (str (buildL l))
  rw [str_list] at hpz
  have hlen : ∀ h2 : (∀ p ∈ l, p.1.length + p.2.length ≤ 1000), (buildL l).length ≤ l.length * 3002 := fun h2 => buildL_len l 1000 h2
  rw [hn] at hl hl0 hbd hrb hbk hbn hlen ⊢
  have HN := Lib.hid hn; have HZ := Lib.hid hz; have HBD := Lib.hid hbd; have HRB := Lib.hid hrb; have HBK := Lib.hid hbk; have HBN := Lib.hid hbn; have HLEN := Lib.hid hlen; clear hn hz hbd hrb hbk hbn hlen
  go_enter Try.func11, Try.ntmps11
  go_wp2
  go_loopw [3] (fun i wr => ∃ k q : Nat, k ≤ n ∧ i = .int .i64 k ∧ wr = w.drewN q ∧ (0 < k → n ≤ 200) ∧ ∀ j (hj : j < l.length), j < k → l[j].1.length + l[j].2.length ≤ 1000) (fun i _ => n - (intOf i).toNat)
  case atStart => exact ⟨0, 0, Nat.zero_le _, rfl, rfl, fun h => absurd h (Nat.lt_irrefl _), fun _ _ h => absurd h (Nat.not_lt_zero _)⟩
  case round =>
    obtain ⟨k, q, hk, rfl, rfl, h200, hb⟩ := hrel
    have HB := Lib.hid hb; have H2 := Lib.hid h200; clear hb h200
    by_cases hlt : k < n
    · have hkl : k < l.length := by have := HN.out; omega
      obtain ⟨a, rfl, hab, h1, h2⟩ := hp k hkl
      have hsz := HZ.out l[k] (List.getElem_mem hkl)
      have g1 : l[k].1.length + l[k].2.length ≤ 1000 → ∀ j (hj : j < l.length), j < k + 1 → l[j].1.length + l[j].2.length ≤ 1000 := fun h j hj hjk => by
        rcases Nat.lt_succ_iff_lt_or_eq.1 hjk with h' | h'
        · exact HB.out j hj h'
        · subst h'; exact h
      have G1 := Lib.hid g1; clear g1
      generalize l[k] = x at *
      obtain ⟨xa, xb⟩ := x
      dsimp only at h1 h2 hsz
      unfold reachBytes at hsz
      have hza := hsz.1
      have hzb := hsz.2
      clear hsz
      by_cases hn2 : 200 < n
      · have hd : decide ((200 : Int) < (n : Int)) = true := by simp; omega
        go_wp2
        go_quiet (fail)
        go_wp2_with fail
        refine (answers2_any _).mono ?_
        rintro e w3 ⟨rfl, hb3⟩
        go_wp2
        go_ret
        exact ⟨rfl, (belowDrewN (Below.refl _ _) _).chain hb3⟩
      · have hd : decide ((200 : Int) < (n : Int)) = false := by simp; omega
        have hw : IntKind.i64.wrap ((xa.length : Int) + (xb.length : Int)) = (xa.length : Int) + (xb.length : Int) := wraps_i64 _ (by omega) (by omega)
        by_cases hs : 1000 < xa.length + xb.length
        · have hd2 : decide ((1000 : Int) < (xa.length : Int) + (xb.length : Int)) = true := by simp; omega
          go_wp2
          go_quiet (fail)
          go_wp2_with fail
          refine (answers2_any _).mono ?_
          rintro e w3 ⟨rfl, hb3⟩
          go_wp2
          go_ret
          exact ⟨rfl, (belowDrewN (Below.refl _ _) _).chain hb3⟩
        · have hd2 : decide ((1000 : Int) < (xa.length : Int) + (xb.length : Int)) = false := by simp; omega
          have HG := Lib.hid (G1.out (Nat.le_of_not_lt hs))
          have hn3 : n ≤ 200 := by omega
          go_wp2
          go_quiet (fail)
          go_wp2
          go_roundw
          case rel => exact ⟨k + 1, q + nq, by omega, by go_num, rfl, fun _ => hn3, HG.out⟩
          case measure => simp [intOf]; omega
    · have hke : k = n := by omega
      subst hke
      have hn2 : k ≤ 200 := by
        rcases Nat.eq_zero_or_pos k with h | h
        · omega
        · exact H2.out h
      have hsm : ∀ p ∈ l, p.1.length + p.2.length ≤ 1000 := fun p hp => by
        obtain ⟨j, hj, rfl⟩ := List.getElem_of_mem hp
        exact HB.out j hj (by have := HN.out; omega)
      have hlen := HLEN.out hsm
      have hbd := fun (w : World) (hB : B ≤ w.heap.size) (hp : Prs w B A l) => HBD.out w hB hp hn2 hsm
      have hrb := fun (w : World) (hB : B ≤ w.heap.size) (hp : Prs w B A l) => HRB.out w hB hp hn2 hsm
      have HSM := Lib.hid hsm; clear hsm
      generalize buildL l = S at *
      generalize parseE S = E at *
      generalize parseP S = P at *
      have hp0 : Prs (w.drewN q) B A l := hp
      go_wp2_with fail
      refine (hbd _ (by exact hB) hp0).mono ?_
      rintro e w1 ⟨rfl, hb1⟩
      go_wp2_with fail
      refine (hpz _).mono ?_
      rintro e w2 ⟨v2, rfl, hrow2, hb2⟩
      obtain ⟨A2, c2, rfl, hr2⟩ := hrow2.reads
      have hb02 := hb1.chain hb2
      have hp2 := hp0.below (hb02.mono hB)
      go_wp2_with fail
      refine (hrb _ (Nat.le_trans hB hb02.size) hp2).mono ?_
      rintro e w3 ⟨rfl, hb3⟩
      have hb03 := hb02.chain hb3
      have hp3 := hp0.below (hb03.mono hB)
      have hr3 := hr2.below hb3
      have hS : (S != S) = false := by simp
      by_cases hbig : 4096 < S.length ∨ 64 < k
      · have hE := HBN.out hbig
        obtain ⟨rfl, rfl⟩ : E = 3 ∧ P = [] := hE
        by_cases hbig1 : 4096 < S.length
        · have hd : decide ((4096 : Int) < (S.length : Int)) = true := by simp; omega
          clear hbig
          go_wp2_with fail
          refine (answers2_any _).mono ?_
          rintro e w4 ⟨rfl, hb4⟩
          go_wp2
          go_ret
          exact ⟨rfl, (belowDrewN (Below.refl _ _) q).chain (hb03.chain hb4)⟩
        · have hd : decide ((4096 : Int) < (S.length : Int)) = false := by simp; omega
          have hd2 : decide ((64 : Int) < (k : Int)) = true := by simp; omega
          clear hbig
          go_wp2_with fail
          refine (answers2_any _).mono ?_
          rintro e w4 ⟨rfl, hb4⟩
          go_wp2
          go_ret
          exact ⟨rfl, (belowDrewN (Below.refl _ _) q).chain (hb03.chain hb4)⟩
      · have hE := HBK.out (by omega) (by omega)
        have hd : decide ((4096 : Int) < (S.length : Int)) = false := by simp; omega
        have hd2 : decide ((64 : Int) < (k : Int)) = false := by simp; omega
        obtain ⟨rfl, rfl⟩ : E = 0 ∧ P = l := hE
        clear hbig
        go_wp2_with fail
        refine (answers2_any _).mono ?_
        rintro e w4 ⟨rfl, hb4⟩
        have hb04 := hb03.chain hb4
        have hp4 : Prs w4 w4.heap.size A P := (hp0.below (hb04.mono hB)).more (Nat.le_trans hB hb04.size)
        have hr4 : Prs w4 w4.heap.size A2 P := ((hr2.below hb3).more hb3.size |>.below hb4).more hb4.size
        go_wp2_with fail
        obtain rfl := HN.out
        refine (same_any A A2 c c2 _ P hl0 _ hp4 hr4).mono ?_
        rintro e w5 ⟨rfl, q5, rfl⟩
        go_wp2
        go_ret
        exact ⟨rfl, belowDrewN ((belowDrewN (Below.refl _ _) q).chain hb04) q5⟩
theorem pairsBack_law {w : World} (A : Option Addr) (c : Nat) (l : PL) (h : Prs w w.heap.size A l ∧ l.length ≤ reachBytes ∧ ∀ p ∈ l, p.1.length ≤ reachBytes ∧ p.2.length ≤ reachBytes) :
    Calls Try.prog 11 #[.slice A l.length c] w fun e w' => e = .returned (.bool true) ∧ Below w.heap.size w w' :=
  pairsBack_walk A c w.heap.size l h.2.1 h.2.2 w (Nat.le_refl _) h.1
end Go.Proofs.Ythinbheplcameaa
