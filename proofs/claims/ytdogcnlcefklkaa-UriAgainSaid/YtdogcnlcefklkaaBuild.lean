/- pairs.Build by its loop. -/
import Derived.Test.YtdogcnlcefklkaaBuilder
import Derived.Test.YtdogcnlcefklkaaGet
import Derived.Test.YtdogcnlcefklkaaQuote
import Derived.Test.YtdogcnlcefklkaaWords
namespace Go.Proofs.Ytdogcnlcefklkaa
open Go.RowKit

/-- the form of the first k, and what is written ahead of the next one -/
theorem buildL_first (l : PL) (h : 0 < l.length) : buildL (l.take 1) = oneL l[0] := by
  cases l with
  | nil => simp at h
  | cons p r => simp [buildL]
theorem buildL_next (l : PL) (k : Nat) (h : k < l.length) (h0 : 0 < k) : buildL (l.take (k + 1)) = buildL (l.take k) ++ 38 :: oneL l[k] := by
  rw [List.take_succ_eq_append_getElem h, buildL_snoc]
  intro e
  have := congrArg List.length e
  rw [List.length_take] at this
  simp at this
  rcases this with h1 | h1
  · omega
  · rw [h1] at h; simp at h
theorem sized_take {l : PL} {m : Nat} (h : ∀ p ∈ l, p.1.length + p.2.length ≤ m) (k : Nat) : (buildL (l.take k)).length ≤ l.length * (3 * m + 2) := by
  refine Nat.le_trans (buildL_len _ m fun p hp => h p (List.mem_of_mem_take hp)) (Nat.mul_le_mul_right _ ?_)
  simp; omega

theorem cell_two {w : World} {b : Nat} {u v : Value} {t : TypeId} (h : w.heap[b]? = some (.cells #[u, v] t (0, 0))) : w.cell? ⟨b, 0, none⟩ = some u ∧ w.cell? ⟨b, 1, none⟩ = some v := by
  rw [Lib.cell_of_heap h, Lib.cell_of_heap h]; exact ⟨rfl, rfl⟩

set_option maxRecDepth 100000 in
set_option maxHeartbeats 2000000 in
theorem build_any (A : Option Addr) (c B m : Nat) (l : PL) (hl : l.length ≤ 1048576) (hm : m ≤ 1048576) (hz : ∀ p ∈ l, p.1.length + p.2.length ≤ m) (w : World) (hB : B ≤ w.heap.size) (hp : Prs w B A l) :
    Calls Try.prog 20 #[.slice A l.length c] w fun e w' => e = .returned (.string ⟨(buildL l).toArray⟩) ∧ Below w.heap.size w w' := by
  have hmax : l.length * (3 * m + 2) ≤ 1048576 * 3145730 := Nat.mul_le_mul hl (by omega)
  have hst := sized_take hz
  have hall : buildL (l.take l.length) = buildL l := by rw [List.take_length]
  obtain ⟨n, hn⟩ : ∃ n, l.length = n := ⟨_, rfl⟩
  obtain ⟨T, hT⟩ : ∃ T, l.length * (3 * m + 2) = T := ⟨_, rfl⟩
  rw [hT] at hmax hst
  rw [hn] at hl hall ⊢
  have HN := Lib.hid hn; have HZ := Lib.hid hz; have HST := Lib.hid hst; have HA := Lib.hid hall; clear hn hz hst hall hT
  go_enter Try.func20, Try.ntmps20
  go_wp2
  go_loopw [8] (fun i wr => ∃ k : Nat, k ≤ n ∧ i = .int .i64 k ∧ Bld wr w.heap.size w.heap.size (buildL (l.take k)) ∧ Below w.heap.size w wr) (fun i _ => n - (intOf i).toNat)
  case atStart => exact ⟨0, Nat.zero_le _, rfl, Bld.new w, (Below.refl _ _).alloc (Nat.le_refl _) _⟩
  case round =>
    obtain ⟨k, hk, rfl, hbd, hbw⟩ := hrel
    have hbs := hbw.size
    have hwlt := hbd.lt
    have hlk := HST.out k
    by_cases hlt : k < n
    · have hkl : k < l.length := by have := HN.out; omega
      obtain ⟨a, rfl, hab, h1, h2⟩ := (hp.below (hbw.mono hB)) k hkl
      have hlk1 := HST.out (k + 1)
      have hsz := HZ.out l[k] (List.getElem_mem hkl)
      have g1 := buildL_next l k hkl
      have g2 : k = 0 → buildL (l.take (k + 1)) = oneL l[k] := fun e => by subst e; exact buildL_first l hkl
      have G1 := Lib.hid g1; have G2 := Lib.hid g2; clear g1 g2
      generalize l[k] = x at *
      obtain ⟨xa, xb⟩ := x
      dsimp only at h1 h2 hsz
      by_cases hk0 : 0 < k
      · have HG := Lib.hid (G1.out hk0); clear G1 G2
        generalize buildL (l.take k) = acc at *
        have hnl : (buildL (l.take (k + 1))).length = acc.length + (1 + ((quoteL xa).length + (1 + (quoteL xb).length))) := by rw [HG.out]; simp [oneL]; omega
        have hq1 : acc.length + 1 + (quoteL xa).length + 1 + (quoteL xb).length ≤ T := by omega
        clear hnl hlk1
        go_wp2_with fail
        refine (writeByte_any w.heap.size w.heap.size acc 38 _ (hbd.alloc _) (by omega) (by simp; omega)).mono ?_
        rintro e w1 ⟨rfl, hbd1, hbw1, hkp1⟩
        have hP1 := hkp1 _ _ _ _ (heap_alloc_new wr (.cells #[.string ⟨xa.toArray⟩, .string ⟨xb.toArray⟩] 32)) (by omega) (by decide)
        have hB1 : Below w.heap.size w w1 := (hbw.alloc hbs _).trans hbw1
        obtain ⟨p0, f0⟩ := cell_two hP1
        go_wp2_with fail
        refine (quote_any (str xa) (by rw [str_size]; omega) _).mono ?_
        rintro e w2 ⟨rfl, hq2⟩
        have hbd2 := hbd1.below hq2
        have hP2 := (Keeps.below (b := w.heap.size) hq2) _ _ _ _ hP1 (by omega) (by decide)
        have hB2 := hB1.chain hq2
        rw [str_list]
        go_wp2_with fail
        refine (writeString_any w.heap.size w.heap.size _ (str (quoteL xa)) _ hbd2 (by rw [str_size]; simp; omega) hB2.size).mono ?_
        rintro e w3 ⟨rfl, hbd3, hbw3, hkp3⟩
        have hP3 := hkp3 _ _ _ _ hP2 (by omega) (by decide)
        have hB3 := hB2.trans hbw3
        rw [str_list] at hbd3
        go_wp2_with fail
        refine (writeByte_any w.heap.size w.heap.size _ 61 _ hbd3 (by simp; omega) hB3.size).mono ?_
        rintro e w4 ⟨rfl, hbd4, hbw4, hkp4⟩
        have hP4 := hkp4 _ _ _ _ hP3 (by omega) (by decide)
        have hB4 := hB3.trans hbw4
        obtain ⟨p4, f4⟩ := cell_two hP4
        go_wp2_with fail
        refine (quote_any (str xb) (by rw [str_size]; omega) _).mono ?_
        rintro e w5 ⟨rfl, hq5⟩
        have hbd5 := hbd4.below hq5
        have hB5 := hB4.chain hq5
        rw [str_list]
        go_wp2_with fail
        refine (writeString_any w.heap.size w.heap.size _ (str (quoteL xb)) _ hbd5 (by rw [str_size]; simp; omega) hB5.size).mono ?_
        rintro e w6 ⟨rfl, hbd6, hbw6, hkp6⟩
        have hB6 := hB5.trans hbw6
        rw [str_list] at hbd6
        go_wp2_with fail
        go_roundw
        case rel => exact ⟨k + 1, by omega, by go_num, by rw [HG.out]; simpa [oneL] using hbd6, hB6⟩
        case measure => simp [intOf]; omega
      · have hke : k = 0 := by omega
        have HG := Lib.hid (G2.out hke); clear G1 G2
        have hkn : buildL (l.take k) = [] := by rw [hke]; rfl
        rw [hkn] at hbd
        clear hke hkn
        have hnl : (buildL (l.take (k + 1))).length = (quoteL xa).length + (1 + (quoteL xb).length) := by rw [HG.out]; simp [oneL]; omega
        have hq1 : (quoteL xa).length + 1 + (quoteL xb).length ≤ T := by omega
        clear hnl hlk1
        have hbd1 := hbd.alloc (.cells #[.string ⟨xa.toArray⟩, .string ⟨xb.toArray⟩] 32)
        have hP1 := heap_alloc_new wr (.cells #[.string ⟨xa.toArray⟩, .string ⟨xb.toArray⟩] 32)
        have hB1 : Below w.heap.size w (wr.alloc (.cells #[.string ⟨xa.toArray⟩, .string ⟨xb.toArray⟩] 32)) := hbw.alloc hbs _
        obtain ⟨p0, f0⟩ := cell_two hP1
        go_wp2_with fail
        refine (quote_any (str xa) (by rw [str_size]; omega) _).mono ?_
        rintro e w2 ⟨rfl, hq2⟩
        have hbd2 := hbd1.below hq2
        have hP2 := (Keeps.below (b := w.heap.size) hq2) _ _ _ _ hP1 (by omega) (by decide)
        have hB2 := hB1.chain hq2
        rw [str_list]
        go_wp2_with fail
        refine (writeString_any w.heap.size w.heap.size _ (str (quoteL xa)) _ hbd2 (by rw [str_size]; simp; omega) hB2.size).mono ?_
        rintro e w3 ⟨rfl, hbd3, hbw3, hkp3⟩
        have hP3 := hkp3 _ _ _ _ hP2 (by omega) (by decide)
        have hB3 := hB2.trans hbw3
        rw [str_list] at hbd3
        go_wp2_with fail
        refine (writeByte_any w.heap.size w.heap.size _ 61 _ hbd3 (by simp; omega) hB3.size).mono ?_
        rintro e w4 ⟨rfl, hbd4, hbw4, hkp4⟩
        have hP4 := hkp4 _ _ _ _ hP3 (by omega) (by decide)
        have hB4 := hB3.trans hbw4
        obtain ⟨p4, f4⟩ := cell_two hP4
        go_wp2_with fail
        refine (quote_any (str xb) (by rw [str_size]; omega) _).mono ?_
        rintro e w5 ⟨rfl, hq5⟩
        have hbd5 := hbd4.below hq5
        have hB5 := hB4.chain hq5
        rw [str_list]
        go_wp2_with fail
        refine (writeString_any w.heap.size w.heap.size _ (str (quoteL xb)) _ hbd5 (by rw [str_size]; simp; omega) hB5.size).mono ?_
        rintro e w6 ⟨rfl, hbd6, hbw6, hkp6⟩
        have hB6 := hB5.trans hbw6
        rw [str_list] at hbd6
        go_wp2_with fail
        go_roundw
        case rel => exact ⟨k + 1, by omega, by go_num, by rw [HG.out]; simpa [oneL] using hbd6, hB6⟩
        case measure => simp [intOf]; omega
    · have hke : k = n := by omega
      subst hke
      rw [HA.out] at hbd
      go_wp2_with fail
      refine (bldString_any w.heap.size w.heap.size (buildL l) _ hbd hbs).mono ?_
      rintro e w1 ⟨rfl, hb1⟩
      go_wp2
      go_ret
      exact ⟨rfl, hbw.trans hb1⟩
end Go.Proofs.Ytdogcnlcefklkaa
