/- The walk of UriWith. -/
import Derived.Test.YtdogcnlcefklkaaAns3
namespace Go.Proofs.Ytdogcnlcefklkaa
open Go.RowKit

theorem withL_pre (s : List UInt8) (l : PL) : ∃ r, withL s l = s ++ r := by
  unfold withL; split
  · exact ⟨[], by simp⟩
  · exact ⟨markL s ++ buildL l, by simp⟩
theorem withL_len (s : List UInt8) (l : PL) : (withL s l).length ≤ s.length + 1 + (buildL l).length := by
  unfold withL; split
  · omega
  · simp only [List.length_append]
    have : (markL s).length = 1 := by unfold markL; split <;> rfl
    omega
set_option maxRecDepth 100000 in
set_option maxHeartbeats 1000000 in
theorem uriWith_walk (s : ByteArray) (hs : s.size ≤ maxLen) (A : Option Addr) (c B : Nat) (l : PL) (hlr : l.length ≤ reachBytes) (hz : ∀ p ∈ l, p.1.length ≤ reachBytes ∧ p.2.length ≤ reachBytes) (w : World) (hv : VarIn w) (hB : B ≤ w.heap.size) (hp : Prs w B A l) :
    Calls Try.prog 4 #[.string s, .slice A l.length c] w fun e w' => e = .returned (.bool true) ∧ Below w.heap.size w w' := by
  have hl0 : l.length ≤ maxLen := Nat.le_trans hlr (by decide)
  have hl := hl0
  unfold maxLen at hl hs
  clear hlr
  by_cases h30 : 3000 < s.size
  · have hd : decide ((3000 : Int) < (s.size : Int)) = true := by simp; omega
    generalize l.length = n at *
    go_enter Try.func4, Try.ntmps4
    go_wp2_with fail
    refine (answers3_any _ hv).mono ?_
    rintro e w3 ⟨rfl, hb3⟩
    go_wp2
    go_ret
    exact ⟨rfl, hb3⟩
  have hd30 : decide ((3000 : Int) < (s.size : Int)) = false := by simp; omega
  by_cases h50 : 50 < l.length
  · have hd : decide ((50 : Int) < (l.length : Int)) = true := by simp; omega
    generalize l.length = n at *
    go_enter Try.func4, Try.ntmps4
    go_wp2_with fail
    refine (answers3_any _ hv).mono ?_
    rintro e w3 ⟨rfl, hb3⟩
    go_wp2
    go_ret
    exact ⟨rfl, hb3⟩
  have hd50 : decide ((50 : Int) < (l.length : Int)) = false := by simp; omega
  have hs3 : s.data.toList.length ≤ 3000 := by show s.size ≤ 3000; omega
  have hwt := fun (w : World) (hB : B ≤ w.heap.size) (hp : Prs w B A l) (h2 : ∀ p ∈ l, p.1.length + p.2.length ≤ 300) => with_any s.data.toList (by omega) A c B 300 l (by omega) (by omega) h2 w hB hp
  have hrw := fun (w : World) (hB : B ≤ w.heap.size) (hp : Prs w B A l) (h2 : ∀ p ∈ l, p.1.length + p.2.length ≤ 300) => refWith_any s.data.toList (by omega) A c B 300 l (by omega) (by omega) h2 w hB hp
  have heta : str s.data.toList = s := (str_eta s).symm
  rw [heta] at hwt hrw
  have hlen := fun (h2 : ∀ p ∈ l, p.1.length + p.2.length ≤ 300) => buildL_len l 300 h2
  have hTl := withL_len s.data.toList l
  obtain ⟨r, hr⟩ := withL_pre s.data.toList l
  have hsl : s.data.toList.length = s.size := rfl
  have hT1 : s.size ≤ (str (withL s.data.toList l)).size := by
    show s.size ≤ (withL s.data.toList l).length
    rw [hr, List.length_append, hsl]; exact Nat.le_add_right _ _
  have hT2 : (str (withL s.data.toList l)).extract 0 s.size = s := by
    rw [ext_pre, str_list, hr, List.take_left' hsl]
  have hT3 : (str (withL s.data.toList l)).size ≤ s.size + 1 + (buildL l).length := by rw [str_size]; exact hTl
  obtain ⟨n, hn⟩ : ∃ n, l.length = n := ⟨_, rfl⟩
  rw [hn] at hl hl0 hwt hrw hd50 h50 hlen ⊢
  generalize str (withL s.data.toList l) = T at *
  clear hTl hr heta hsl
  have HN := Lib.hid hn; have HZ := Lib.hid hz; have HW := Lib.hid hwt; have HR := Lib.hid hrw; have HLEN := Lib.hid hlen; have HT2 := Lib.hid hT2; clear hn hz hwt hrw hlen hT2
  go_enter Try.func4, Try.ntmps4
  go_wp2
  go_loopw [5] (fun i wr => ∃ k q : Nat, k ≤ n ∧ i = .int .i64 k ∧ wr = w.drewN q ∧ ∀ j (hj : j < l.length), j < k → l[j].1.length + l[j].2.length ≤ 300) (fun i _ => n - (intOf i).toNat)
  case atStart => exact ⟨0, 0, Nat.zero_le _, rfl, rfl, fun _ _ h => absurd h (Nat.not_lt_zero _)⟩
  case round =>
    obtain ⟨k, q, hk, rfl, rfl, hb⟩ := hrel
    have HB := Lib.hid hb; clear hb
    have hbq : Below w.heap.size w (w.drewN q) := belowDrewN (Below.refl _ _) q
    by_cases hlt : k < n
    · have hkl : k < l.length := by have := HN.out; omega
      obtain ⟨a, rfl, hab, h1, h2⟩ := hp k hkl
      have hsz := HZ.out l[k] (List.getElem_mem hkl)
      have g1 : l[k].1.length + l[k].2.length ≤ 300 → ∀ j (hj : j < l.length), j < k + 1 → l[j].1.length + l[j].2.length ≤ 300 := fun h j hj hjk => by
        rcases Nat.lt_succ_iff_lt_or_eq.1 hjk with h' | h'
        · exact HB.out j hj h'
        · subst h'; exact h
      have G1 := Lib.hid g1; clear g1
      generalize l[k] = x at *
      obtain ⟨xa, xb⟩ := x
      dsimp only at h1 h2 hsz
      unfold reachBytes at hsz
      have hza := hsz.1
      have hzb := hsz.2
      clear hsz
      have hw : IntKind.i64.wrap ((xa.length : Int) + (xb.length : Int)) = (xa.length : Int) + (xb.length : Int) := wraps_i64 _ (by omega) (by omega)
      by_cases hs : 300 < xa.length + xb.length
      · have hd2 : decide ((300 : Int) < (xa.length : Int) + (xb.length : Int)) = true := by simp; omega
        go_wp2
        go_quiet (fail)
        go_wp2_with fail
        refine (answers3_any _ (hv.below (belowDrewN (Below.refl _ _) _))).mono ?_
        rintro e w3 ⟨rfl, hb3⟩
        go_wp2
        go_ret
        exact ⟨rfl, (belowDrewN (Below.refl _ _) _).chain hb3⟩
      · have hd2 : decide ((300 : Int) < (xa.length : Int) + (xb.length : Int)) = false := by simp; omega
        have HG := Lib.hid (G1.out (Nat.le_of_not_lt hs))
        go_wp2
        go_quiet (fail)
        go_wp2
        go_roundw
        case rel => exact ⟨k + 1, q + nq, by omega, by go_num, rfl, HG.out⟩
        case measure => simp [intOf]; omega
    · have hke : k = n := by omega
      subst hke
      have hsm : ∀ p ∈ l, p.1.length + p.2.length ≤ 300 := fun p hp => by
        obtain ⟨j, hj, rfl⟩ := List.getElem_of_mem hp
        exact HB.out j hj (by have := HN.out; omega)
      have hlen := HLEN.out hsm
      have hT4 : T.size ≤ 3000 + 1 + 50 * 902 := by
        have : k * (3 * 300 + 2) ≤ 50 * 902 := Nat.mul_le_mul (by omega) (by omega)
        omega
      have hwt := fun (w : World) (hB : B ≤ w.heap.size) (hp : Prs w B A l) => HW.out w hB hp hsm
      have hrw := fun (w : World) (hB : B ≤ w.heap.size) (hp : Prs w B A l) => HR.out w hB hp hsm
      clear HW HR HB HZ HLEN hsm hlen hT3
      have hp0 : Prs (w.drewN q) B A l := hp
      have hge : decide ((s.size : Int) ≤ (T.size : Int)) = true := by simp; omega
      go_wp2_with fail
      refine (hwt _ (by exact hB) hp0).mono ?_
      rintro e w1 ⟨rfl, hb1⟩
      have hb01 := hbq.chain hb1
      go_wp2_with fail
      refine (answers3_any _ (hv.below hb01)).mono ?_
      rintro e w2 ⟨rfl, hb2⟩
      have hb02 := hb1.chain hb2
      have hp2 := hp0.below (hb02.mono hB)
      go_wp2_with fail
      refine (hrw _ (Nat.le_trans hB hb02.size) hp2).mono ?_
      rintro e w3 ⟨rfl, hb3⟩
      go_wp2
      go_ret
      exact ⟨ret_bool (by rw [HT2.out]; simp), hbq.chain (hb02.chain hb3)⟩
theorem uriWith_law {w : World} (s : ByteArray) (A : Option Addr) (c : Nat) (l : PL) (hs : s.size ≤ maxLen) (h : Prs w w.heap.size A l ∧ l.length ≤ reachBytes ∧ ∀ p ∈ l, p.1.length ≤ reachBytes ∧ p.2.length ≤ reachBytes) (hv : VarIn w) :
    Calls Try.prog 4 #[.string s, .slice A l.length c] w fun e w' => e = .returned (.bool true) ∧ Below w.heap.size w w' :=
  uriWith_walk s hs A c w.heap.size l h.2.1 h.2.2 w hv (Nat.le_refl _) h.1
end Go.Proofs.Ytdogcnlcefklkaa
