/- The walk of PairsEmpty. -/
import Derived.Test.YthinbheplcameaaAns2
namespace Go.Proofs.Ythinbheplcameaa
open Go.RowKit

/-- pairs, each behind some & -/
def empL (a : Nat) : PL → List UInt8
  | [] => []
  | p :: r => List.replicate (a + 1) 38 ++ (oneL p ++ empL a r)
theorem empL_snoc (a : Nat) (l : PL) (p : List UInt8 × List UInt8) : empL a (l ++ [p]) = empL a l ++ (List.replicate (a + 1) 38 ++ oneL p) := by
  induction l with
  | nil => simp [empL]
  | cons q l ih => rw [List.cons_append, empL, ih, empL]; simp [List.append_assoc]
theorem empL_parts (a : Nat) (l : PL) : partsL (empL a l) = l.map oneL := by
  induction l with
  | nil => rfl
  | cons p r ih =>
    rw [empL, partsL_amps]
    cases r with
    | nil => rw [empL, List.append_nil, partsL_one _ (oneL_amp p), one1_oneL]; rfl
    | cons q r =>
      have e : empL a (q :: r) = 38 :: (List.replicate a 38 ++ (oneL q ++ empL a r)) := by rw [empL, List.replicate_succ, List.cons_append]
      rw [e] at ih ⊢
      rw [partsL_amp] at ih
      rw [partsL_app _ _ (oneL_amp p), ih, one1_oneL]; rfl
theorem empL_form (a : Nat) (l : PL) : formL (empL a l) = some l := by unfold formL; rw [empL_parts, pairsL_oneL]
theorem empL_len (a : Nat) (ha : a ≤ 2) (l : PL) (h : ∀ p ∈ l, p.1.length + p.2.length ≤ 50) : (empL a l).length ≤ l.length * 154 := by
  induction l with
  | nil => simp [empL]
  | cons p r ih =>
    have h1 := ih (fun q hq => h q (List.mem_cons_of_mem _ hq))
    have h2 := h p (by simp)
    have h3 := oneL_len p
    rw [empL]; simp only [List.length_append, List.length_replicate, List.length_cons]
    omega
theorem empL_parse (a : Nat) (ha : a ≤ 2) (l : PL) (hl : l.length ≤ 20) (h : ∀ p ∈ l, p.1.length + p.2.length ≤ 50) : (empL a l).length ≤ 3080 ∧ parseE (empL a l) = 0 ∧ parseP (empL a l) = l := by
  have h1 := empL_len a ha l h
  exact ⟨by omega, parse_some (by omega) (empL_form a l) (by omega)⟩
theorem empL_next (a : Nat) (l : PL) (k : Nat) (h : k < l.length) : empL a (l.take (k + 1)) = empL a (l.take k) ++ (List.replicate (a + 1) 38 ++ oneL l[k]) := by
  rw [List.take_succ_eq_append_getElem h, empL_snoc]

/-- a new slice of one pair reads as it -/
theorem one_reads (w : World) (x : List UInt8 × List UInt8) : Prs (w.alloc (.cells #[.string ⟨x.1.toArray⟩, .string ⟨x.2.toArray⟩] 38)) (w.heap.size + 1) (some ⟨w.heap.size, 0, none⟩) [x] := fun k hk => by
  have hk0 : k = 0 := by simpa using hk
  subst hk0
  exact ⟨_, rfl, by simp, by simp [Addr.add], by simp [Addr.add]⟩

set_option maxRecDepth 100000 in
set_option maxHeartbeats 1000000 in
theorem pairsEmpty_walk (A : Option Addr) (c B : Nat) (l : PL) (x : Int) (hlr : l.length ≤ reachBytes) (hz : ∀ p ∈ l, p.1.length ≤ reachBytes ∧ p.2.length ≤ reachBytes) (hx : 0 ≤ x) (hx' : x < 256) (w : World) (hB : B ≤ w.heap.size) (hp : Prs w B A l) :
    Calls Try.prog 14 #[.slice A l.length c, .int .u8 x] w fun e w' => e = .returned (.bool true) ∧ Below w.heap.size w w' := by
  have hl0 : l.length ≤ maxLen := Nat.le_trans hlr (by decide)
  have hl := hl0
  unfold maxLen at hl
  clear hlr
  by_cases h20 : 20 < l.length
  · go_enter Try.func14, Try.ntmps14
    go_wp2_with fail
    refine (answers2_any _).mono ?_
    rintro e w3 ⟨rfl, hb3⟩
    go_wp2
    go_ret
    exact ⟨rfl, hb3⟩
  obtain ⟨a, ha⟩ : ∃ a : Nat, x % 3 = (a : Int) := ⟨(x % 3).toNat, by omega⟩
  have ha2 : a ≤ 2 := by omega
  have hpz := fun s : ByteArray => parse_any s
  have hparse := empL_parse a ha2 l (by omega)
  have hpre := fun k => empL_len a ha2 (l.take k)
  have hall : l.take l.length = l := List.take_length
  have hn20 : l.length ≤ 20 := by omega
  clear h20
  obtain ⟨n, hn⟩ : ∃ n, l.length = n := ⟨_, rfl⟩
  rw [hn] at hl hl0 hall hn20 ⊢
  have HN := Lib.hid hn; have HZ := Lib.hid hz; have HALL := Lib.hid hall; have HPARSE := Lib.hid hparse; have HPRE := Lib.hid hpre; clear hn hz hall hparse hpre
  go_enter Try.func14, Try.ntmps14
  go_wp2
  go_loopw [5, 6] (fun s i wr => ∃ k : Nat, k ≤ n ∧ i = .int .i64 k ∧ s = .string ⟨(empL a (l.take k)).toArray⟩ ∧ Below w.heap.size w wr ∧ ∀ j (hj : j < l.length), j < k → l[j].1.length + l[j].2.length ≤ 50) (fun _ i _ => n - (intOf i).toNat)
  case atStart => exact ⟨0, Nat.zero_le _, rfl, rfl, Below.refl _ _, fun _ _ h => absurd h (Nat.not_lt_zero _)⟩
  case round =>
    obtain ⟨k, hk, rfl, rfl, hbw, hb⟩ := hrel
    have HB := Lib.hid hb; clear hb
    have hbs := hbw.size
    have hsz : (empL a (l.take k)).length ≤ 3080 := by
      have := HPRE.out k (fun p hp => by
        obtain ⟨j, hj, rfl⟩ := List.getElem_of_mem hp
        rw [List.length_take] at hj
        rw [List.getElem_take]
        exact HB.out j (by omega) (by omega))
      rw [List.length_take] at this
      omega
    by_cases hlt : k < n
    · have hkl : k < l.length := by have := HN.out; omega
      obtain ⟨ad, rfl, hab, h1, h2⟩ := (hp.below (hbw.mono hB)) k hkl
      have hxz := HZ.out l[k] (List.getElem_mem hkl)
      have g1 : l[k].1.length + l[k].2.length ≤ 50 → ∀ j (hj : j < l.length), j < k + 1 → l[j].1.length + l[j].2.length ≤ 50 := fun h j hj hjk => by
        rcases Nat.lt_succ_iff_lt_or_eq.1 hjk with h' | h'
        · exact HB.out j hj h'
        · subst h'; exact h
      have g2 := empL_next a l k hkl
      have G1 := Lib.hid g1; have G2 := Lib.hid g2; clear g1 g2
      generalize l[k] = y at *
      obtain ⟨xa, xb⟩ := y
      dsimp only at h1 h2 hxz
      unfold reachBytes at hxz
      have hza := hxz.1
      have hzb := hxz.2
      clear hxz
      have hw : IntKind.i64.wrap ((xa.length : Int) + (xb.length : Int)) = (xa.length : Int) + (xb.length : Int) := wraps_i64 _ (by omega) (by omega)
      by_cases hs : 50 < xa.length + xb.length
      · have hd2 : decide ((50 : Int) < (xa.length : Int) + (xb.length : Int)) = true := by simp; omega
        go_wp2
        go_quiet (fail)
        go_wp2_with fail
        refine (answers2_any _).mono ?_
        rintro e w3 ⟨rfl, hb3⟩
        go_wp2
        go_ret
        exact ⟨rfl, (belowDrewN hbw _).chain hb3⟩
      · have hd2 : decide ((50 : Int) < (xa.length : Int) + (xb.length : Int)) = false := by simp; omega
        have HG := Lib.hid (G1.out (Nat.le_of_not_lt hs))
        have hbd : ∀ w : World, wr.heap.size + 1 ≤ w.heap.size → Prs w (wr.heap.size + 1) (some ⟨wr.heap.size, 0, none⟩) [(xa, xb)] → Calls Try.prog 29 #[.slice (some ⟨wr.heap.size, 0, none⟩) 1 1] w fun e w' => e = .returned (.string ⟨(buildL [(xa, xb)]).toArray⟩) ∧ Below w.heap.size w w' :=
          fun w => build_any (some ⟨wr.heap.size, 0, none⟩) 1 (wr.heap.size + 1) 50 [(xa, xb)] (by simp) (by decide) (by simp; omega) w
        generalize empL a (l.take k) = acc at *
        clear hw
        go_wp2
        go_quiet (fail)
        clear hd2
        go_wp2
        go_loop [5, 7] (fun s i => ∃ j : Nat, j ≤ a + 1 ∧ i = .int .i64 j ∧ s = .string ⟨(acc ++ List.replicate j 38).toArray⟩) (fun _ i => a + 1 - (intOf i).toNat)
        case atStart => exact ⟨0, Nat.zero_le _, rfl, by simp⟩
        case round =>
          obtain ⟨j, hj, rfl, rfl⟩ := hrel
          by_cases hlj : j < a + 1
          · have hdj : decide ((j : Int) ≤ (a : Int)) = true := by simp; omega
            have hal2 : acc.length + j ≤ 4000 := by omega
            go_wp2
            go_round
            case rel => exact ⟨j + 1, by omega, by go_num, str_eq (by apply ByteArray.ext; apply Array.ext'; simp [ByteArray.data_append, List.replicate_succ'])⟩
            case measure => simp [intOf]; omega
          · have hdj : decide ((j : Int) ≤ (a : Int)) = false := by simp; omega
            have hje : j = a + 1 := by omega
            have HJ := Lib.hid hje; clear hje
            go_wp2_with fail
            refine (hbd ((wr.drewN nq).alloc (.cells #[.string ⟨xa.toArray⟩, .string ⟨xb.toArray⟩] 38)) (by simp) (one_reads (wr.drewN nq) (xa, xb))).mono ?_
            rintro e w4 ⟨rfl, hb4⟩
            have hb04 : Below w.heap.size w w4 := ((belowDrewN hbw nq).alloc (by simpa using hbs) _).trans (hb4.mono (by simp; omega))
            have hbl : buildL [(xa, xb)] = oneL (xa, xb) := rfl
            have hol := oneL_len (xa, xb)
            rw [hbl]
            dsimp only at hol
            have hol2 : (oneL (xa, xb)).length ≤ 151 := by omega
            clear hol hbl
            have hal2 : acc.length + j ≤ 4000 := by omega
            generalize oneL (xa, xb) = O at *
            go_wp2
            go_roundw
            case rel => exact ⟨k + 1, by omega, by go_num, str_eq (by apply ByteArray.ext; apply Array.ext'; rw [G2.out, ← HJ.out]; simp [ByteArray.data_append]), hb04, HG.out⟩
            case measure => simp [intOf]; omega
    · have hke : k = n := by omega
      subst hke
      have hp1 := HPARSE.out (fun p hp => by
        obtain ⟨j, hj, rfl⟩ := List.getElem_of_mem hp
        exact HB.out j hj (by have := HN.out; omega))
      obtain ⟨hp0, hp2, hp3⟩ := hp1
      rw [HALL.out]
      have hpz2 := hpz (str (empL a l))
      rw [str_list, hp2, hp3] at hpz2
      clear hp2 hp3 hpz hsz
      generalize empL a l = S at *
      go_wp2_with fail
      refine (hpz2 _).mono ?_
      rintro e w2 ⟨v2, rfl, hrow2, hb2⟩
      obtain ⟨A2, c2, rfl, hr2⟩ := hrow2.reads
      have hb02 := hbw.chain hb2
      have hd : decide ((4096 : Int) < (S.length : Int)) = false := by simp; omega
      go_wp2_with fail
      refine (answers2_any _).mono ?_
      rintro e w4 ⟨rfl, hb4⟩
      have hb04 := hb02.chain hb4
      have hp4 : Prs w4 w4.heap.size A l := (hp.below (hb04.mono hB)).more (Nat.le_trans hB hb04.size)
      have hr4 : Prs w4 w4.heap.size A2 l := (hr2.below hb4).more hb4.size
      go_wp2_with fail
      obtain rfl := HN.out
      refine (same_any A2 A c2 c _ l hl0 _ hr4 hp4).mono ?_
      rintro e w5 ⟨rfl, q5, rfl⟩
      go_wp2
      go_ret
      exact ⟨rfl, belowDrewN hb04 q5⟩
theorem pairsEmpty_law {w : World} (A : Option Addr) (c : Nat) (l : PL) (x : Int) (h : Prs w w.heap.size A l ∧ l.length ≤ reachBytes ∧ ∀ p ∈ l, p.1.length ≤ reachBytes ∧ p.2.length ≤ reachBytes) (hx : (Lit.int .u8 x).wf = true) :
    Calls Try.prog 14 #[.slice A l.length c, .int .u8 x] w fun e w' => e = .returned (.bool true) ∧ Below w.heap.size w w' :=
  pairsEmpty_walk A c w.heap.size l x h.2.1 h.2.2 (byte_of_wf hx).1 (byte_of_wf hx).2 w (Nat.le_refl _) h.1
end Go.Proofs.Ythinbheplcameaa
