/- Texts merged by program, in build order: JsonNumber. -/
import Derived.Test.YtcbajbpdgmmaeaaDoorC08
import Derived.Test.YtcbajbpdgmmaeaaDoorC17
import Derived.Test.YtcbajbpdgmmaeaaDoorC04
namespace Go.Proofs.YtcbajbpdgmmaeaaDoor
open Go.RowKit

theorem extP (s : ByteArray) (k : Nat) : s.extract 0 k = ⟨(s.data.toList.take k).toArray⟩ := by
  apply ByteArray.ext
  rw [ByteArray.data_extract]
  apply Array.ext'
  rw [Array.toList_extract, List.extract]
  simp
theorem drew_heap (w : World) : w.drew.heap = w.heap := rfl
theorem numL_take (s : List UInt8) (k : Nat) (h1 : ∀ c ∈ s.take k, numC c = true) (h2 : ∀ (h : k < s.length), numC s[k] = false) : numL s = s.take k := by
  have := takeWhile_all (p := numC) (s.take k) (s.drop k) h1 (by
    cases hd : s.drop k with
    | nil => rfl
    | cons c r =>
      have hk : k < s.length := by
        rcases Nat.lt_or_ge k s.length with h | h
        · exact h
        · rw [List.drop_of_length_le h] at hd; cases hd
      rw [List.drop_eq_getElem_cons hk] at hd
      injection hd with hd _
      have := h2 hk
      rw [hd] at this
      simp [this])
  rw [List.take_append_drop] at this
  exact this
theorem numC_is (c : UInt8) : numC c = (decide (c.toNat = 45) || decide (48 ≤ c.toNat ∧ c.toNat ≤ 57)) := by
  unfold numC isDigit
  congr 1
  rw [Bool.eq_iff_iff]; simp
  exact ⟨fun h => by rw [h]; rfl, fun h => UInt8.toNat_inj.1 h⟩
def zeroA : Value := .agg #[.int .i64 0, .int .i64 0, .string ⟨#[]⟩, .slice none 0 0, .slice none 0 0]
/-- what number answers -/
def numberA (s : List UInt8) : Value := match numberC s with
  | some (n, r) => .tuple #[.agg #[.int .i64 3, .int .i64 n, .string ⟨#[]⟩, .slice none 0 0, .slice none 0 0], .string ⟨r.toArray⟩, .bool true]
  | none => .tuple #[zeroA, .string ⟨#[]⟩, .bool false]
theorem below_bytes (w : World) (t : TypeId) (s : ByteArray) : Below w.heap.size w (Lib.bytesWorld w t s) := by
  exact Go.Joins.below_bytesWorld _ _ _ _ (Nat.le_refl _)
set_option maxRecDepth 100000 in
set_option maxHeartbeats 20000000 in
theorem number_any (s : ByteArray) (hs : s.size ≤ 1000000) (w : World) (hk : KitIn w.heap.size w) :
    Calls Tryd.prog 43 #[.string s] w fun e w' => e = .returned (numberA s.data.toList) ∧ Below w.heap.size w w' := by
  have hsl : s.data.toList.length = s.size := rfl
  obtain ⟨R, hR⟩ : ∃ R, w.heap.size = R := ⟨_, rfl⟩
  obtain ⟨W1, hW1⟩ : ∃ W1, W1 = w.alloc (.cells #[.int .i64 0, .int .i64 0, .string ⟨#[]⟩, .slice none 0 0, .slice none 0 0] 28) := ⟨_, rfl⟩
  have b1 : Below R w W1 := by rw [hW1, ← hR]; exact (Below.refl _ _).alloc (Nat.le_refl _) _
  have z1 : W1.heap.size = R + 1 := by rw [hW1, ← hR]; simp
  have r1 : W1.heap[R]? = some (.cells #[.int .i64 0, .int .i64 0, .string ⟨#[]⟩, .slice none 0 0, .slice none 0 0] 28 (0, 0)) := by
    rw [hW1, ← hR]; exact heap_alloc_last w _
  obtain ⟨NA, hNA⟩ : ∃ NA, numberA s.data.toList = NA := ⟨_, rfl⟩
  rw [hNA]
  have HNA0 := Lib.hid hNA; clear hNA
  rw [hR] at hk
  have k1 : KitIn R W1 := hk.below b1
  have KitW := Lib.hid hk
  have HR := Lib.hid hR; have HW1 := Lib.hid hW1; have B1 := Lib.hid b1; have Z1 := Lib.hid z1; have R1 := Lib.hid r1; have K1 := Lib.hid k1
  clear hR hW1 b1 z1 r1 k1 hk
  go_enter Tryd.func43, Tryd.ntmps43
  go_wp2_with fail
  go_loop [5] (fun i => ∃ k : Nat, k ≤ s.size ∧ i = .int .i64 k ∧ ∀ c ∈ s.data.toList.take k, numC c = true) (fun i => s.size - (intOf i).toNat)
  case atStart => exact ⟨0, Nat.zero_le _, rfl, by simp⟩
  case round =>
    obtain ⟨k, hk, rfl, hall⟩ := hrel
    have HA := Lib.hid hall; clear hall
    by_cases hlt : k < s.size ∧ ∀ h : k < s.size, numC s[k] = true
    · obtain ⟨hlt, hc⟩ := hlt
      have hc := hc hlt
      have hsn := take_snoc s k hlt
      have hn2 : ∀ c ∈ s.data.toList.take (k + 1), numC c = true := by
        rw [hsn]; intro c hcm
        rcases List.mem_append.1 hcm with h | h
        · exact HA.out c h
        · rw [List.mem_singleton] at h; rw [h]; exact hc
      have HN := Lib.hid hn2
      rw [numC_is, Bool.or_eq_true, decide_eq_true_eq, decide_eq_true_eq] at hc
      have hu := s[k].toNat_lt
      clear hsn hn2 HA
      by_cases h45 : s[k].toNat = 45
      · have t1 : ((s[k].toNat : Int) == 45) = true := by rw [h45]; rfl
        clear hc
        go_wp2
        go_round
        case rel => exact ⟨k + 1, by omega, by go_num, HN.out⟩
        case measure => simp [intOf]; omega
      · have hc2 : 48 ≤ s[k].toNat ∧ s[k].toNat ≤ 57 := by rcases hc with h | h; exact absurd h h45; exact h
        have t1 : ((s[k].toNat : Int) == 45) = false := by simp; omega
        have t2 : decide ((48 : Int) ≤ (s[k].toNat : Int)) = true := by simp; omega
        have t3 : decide ((s[k].toNat : Int) ≤ 57) = true := by simp; omega
        clear hc
        go_wp2
        go_round
        case rel => exact ⟨k + 1, by omega, by go_num, HN.out⟩
        case measure => simp [intOf]; omega
    · have hnl : numL s.data.toList = s.data.toList.take k := numL_take _ k HA.out (fun h => by
        have h' : k < s.size := h
        cases hx : numC s.data.toList[k] with
        | false => rfl
        | true => exact absurd ⟨h', fun _ => hx⟩ hlt)
      have hP : (s.extract 0 k).data.toList = numL s.data.toList := by rw [extP, toListS, hnl]
      have hPs : (s.extract 0 k).size = k := by
        rw [extP]; show (s.data.toList.take k).toArray.size = k
        rw [List.size_toArray, List.length_take, hsl]; omega
      have hnum : numberA s.data.toList = match Lib.parseIntB 64 (numL s.data.toList) with
        | .ok n => if decI n = numL s.data.toList then .tuple #[.agg #[.int .i64 3, .int .i64 n, .string ⟨#[]⟩, .slice none 0 0, .slice none 0 0], .string ⟨(s.data.toList.drop k).toArray⟩, .bool true] else .tuple #[zeroA, .string ⟨#[]⟩, .bool false]
        | _ => .tuple #[zeroA, .string ⟨#[]⟩, .bool false] := by
        have hk' : (numL s.data.toList).length = k := by rw [hnl, List.length_take, hsl]; omega
        unfold numberA numberC
        rw [hk']
        rcases Lib.parseIntB 64 (numL s.data.toList) with n | _ | _
        ·
          dsimp only
          by_cases e : decI n = numL s.data.toList
          · rw [if_pos e, if_pos e]
          · rw [if_neg e, if_neg e]
        · rfl
        · rfl
      rw [HNA0.out] at hnum
      have HNA := Lib.hid hnum
      have hxs : s.extract k s.size = ⟨(s.data.toList.drop k).toArray⟩ := extS s k
      have HXS := Lib.hid hxs
      obtain ⟨PR, hPR⟩ : ∃ PR, Lib.parseIntB 64 (numL s.data.toList) = PR := ⟨_, rfl⟩
      have hPR2 : Lib.parseIntB 64 (s.extract 0 k).data.toList = PR := by rw [hP]; exact hPR
      rw [hPR] at HNA
      have HPR := Lib.hid hPR2; have HPD := Lib.hid hP
      clear hxs hnum hnl HA hPR hPR2 hP
      by_cases hke : k = s.size
      · subst hke
        clear hlt
        have hsl2 := hsl
        have hss : s.extract 0 s.size = s := by rw [extP, ← hsl, List.take_length]
        rw [hss] at HPR HPD hPs
        rcases PR with n | _ | _
        rotate_left 1
        ·
          have hNAz : NA = .tuple #[zeroA, .string ⟨#[]⟩, .bool false] := HNA.out
          subst hNAz
          obtain ⟨ev, hev, hev'⟩ := K1.out.syn
          have hpi := Tryd.strconv_ParseInt_10_at64_bad s (by omega) (by rw [HPR.out]; rfl) ev W1 hev hev'
          have HPI := Lib.hid hpi; clear hpi hPs hsl hev hev'
          go_wp2_with fail
          rw [← HW1.out]
          refine (HPI.out).mono ?_
          rintro e3 w3 ⟨N, rfl, hN1, hN2, hb3⟩
          dsimp only
          have z1 := Z1.out
          have hr3 := (hb3.block R (by omega)).trans R1.out
          obtain ⟨⟨e0, e1, e2, e3, e4⟩, f0, f1, f2, f3, f4⟩ := box_of hr3
          rw [HR.out]
          go_wp2_with fail
          go_region
          all_goals
            go_wp2
            obtain ⟨wf, hwf⟩ : ∃ wf, wf = (set5 w3 R 0 (.int .i64 0) (.int .i64 0) (.string ⟨#[]⟩) (.slice none 0 0) (.slice none 0 0)).drew := ⟨_, rfl⟩
            change bodyPost _ _ _ _ _ (set5 w3 R 0 (.int .i64 0) (.int .i64 0) (.string ⟨#[]⟩) (.slice none 0 0) (.slice none 0 0)).drew
            rw [← hwf]
            have hx : wf.heap[R]? = some (.cells #[.int .i64 0, .int .i64 0, .string ⟨#[]⟩, .slice none 0 0, .slice none 0 0] 28 (0, 0)) := by rw [hwf, drew_heap]; exact set5_here hr3
            have hbf : Below w.heap.size w wf := by
              rw [hwf, HR.out]; exact ((B1.out.trans (hb3.mono (by omega))).trans (set5_below (Nat.le_refl _))).drew
            obtain ⟨⟨x0, x1, x2, x3, x4⟩, -⟩ := box_of hx
            have HBF := Lib.hid hbf
            clear hbf hwf hx e0 e1 e2 e3 e4 f0 f1 f2 f3 f4
            refine bodyPost_ret (v := .tuple #[zeroA, .string ⟨#[]⟩, .bool false]) (by simp [results, Tryd.results43, go_sem, zeroA, x0, x1, x2, x3, x4]) rfl ?_
            exact ⟨rfl, HBF.out⟩
        ·
          have hNAz : NA = .tuple #[zeroA, .string ⟨#[]⟩, .bool false] := HNA.out
          subst hNAz
          obtain ⟨ev, hev, hev'⟩ := K1.out.rng
          have hpi := Tryd.strconv_ParseInt_10_at64_range s (by omega) HPR.out ev W1 hev hev'
          have HPI := Lib.hid hpi; clear hpi hPs hsl hev hev'
          go_wp2_with fail
          rw [← HW1.out]
          refine (HPI.out).mono ?_
          rintro e3 w3 ⟨N, rfl, hN1, hN2, hb3⟩
          dsimp only
          have z1 := Z1.out
          have hr3 := (hb3.block R (by omega)).trans R1.out
          obtain ⟨⟨e0, e1, e2, e3, e4⟩, f0, f1, f2, f3, f4⟩ := box_of hr3
          rw [HR.out]
          go_wp2_with fail
          go_region
          all_goals
            go_wp2
            obtain ⟨wf, hwf⟩ : ∃ wf, wf = (set5 w3 R 0 (.int .i64 0) (.int .i64 0) (.string ⟨#[]⟩) (.slice none 0 0) (.slice none 0 0)).drew := ⟨_, rfl⟩
            change bodyPost _ _ _ _ _ (set5 w3 R 0 (.int .i64 0) (.int .i64 0) (.string ⟨#[]⟩) (.slice none 0 0) (.slice none 0 0)).drew
            rw [← hwf]
            have hx : wf.heap[R]? = some (.cells #[.int .i64 0, .int .i64 0, .string ⟨#[]⟩, .slice none 0 0, .slice none 0 0] 28 (0, 0)) := by rw [hwf, drew_heap]; exact set5_here hr3
            have hbf : Below w.heap.size w wf := by
              rw [hwf, HR.out]; exact ((B1.out.trans (hb3.mono (by omega))).trans (set5_below (Nat.le_refl _))).drew
            obtain ⟨⟨x0, x1, x2, x3, x4⟩, -⟩ := box_of hx
            have HBF := Lib.hid hbf
            clear hbf hwf hx e0 e1 e2 e3 e4 f0 f1 f2 f3 f4
            refine bodyPost_ret (v := .tuple #[zeroA, .string ⟨#[]⟩, .bool false]) (by simp [results, Tryd.results43, go_sem, zeroA, x0, x1, x2, x3, x4]) rfl ?_
            exact ⟨rfl, HBF.out⟩
        ·
          have hin := parseI_in HPR.out
          have hpi : Calls Tryd.prog 55 #[.string s, .int .i64 10, .int .i64 64] W1 fun e w' => e = .returned (.tuple #[.int .i64 n, .nilIface]) ∧ Below W1.heap.size W1 w' := (Tryd.strconv_ParseInt_10_at64_ok s (by omega) n HPR.out W1).mono (fun e w' ⟨h1, h2⟩ => ⟨h1, by
            rcases h2 with rfl | ⟨t, rfl⟩
            · exact Below.refl _ _
            · exact below_bytes _ _ _⟩)
          have hfi := fun wq (hb : Below R w wq) => formatInt_any n hin.1 hin.2 wq R (KitW.out.below hb).toTab
          have hd : (decI n == s.toList) = decide (decI n = numL s.data.toList) := by
            have hd0 : s.toList = numL s.data.toList := (ByteArray.toList_eq s).trans HPD.out
            rw [hd0, Bool.eq_iff_iff]; simp
          by_cases e : decI n = numL s.data.toList
          · rw [decide_eq_true e] at hd
            have hNAy : NA = .tuple #[.agg #[.int .i64 3, .int .i64 n, .string ⟨#[]⟩, .slice none 0 0, .slice none 0 0], .string ⟨(s.data.toList.drop s.size).toArray⟩, .bool true] := HNA.out.trans (if_pos e)
            subst hNAy
            clear e HNA HPD
            have HPI := Lib.hid hpi; have HFI := Lib.hid hfi; clear hpi hPs hsl hfi
            go_wp2_with fail
            rw [← HW1.out]
            refine (HPI.out).mono ?_
            rintro e3 w3 ⟨rfl, hb3⟩
            dsimp only
            have z1 := Z1.out
            have hb30 := B1.out.trans (hb3.mono (by omega))
            rw [HR.out]
            go_wp2_with fail
            go_region_held3 (fun _ => True) (exact trivial) (first | (go_at_call 56; with_reducible refine (HFI.out _ hb30.drew).mono ?_; rintro e4 w4 ⟨rfl, hb4⟩))
            have z3 := hb3.size
            have z4 := hb4.size
            have hb40 : Below R w w4 := hb30.trans ((below_drew2 _ _ hb4).mono (by omega))
            have hr4 := ((below_drew2 _ _ hb4).block R (by omega)).trans ((hb3.block R (by omega)).trans R1.out)
            obtain ⟨⟨e0, e1, e2, e3, e4⟩, f0, f1, f2, f3, f4⟩ := box_of hr4
            clear hb3 hb4 hb30 z1 z3 z4
            go_wp2_with fail
            go_region
            all_goals
              go_wp2
              obtain ⟨wf, hwf⟩ : ∃ wf, wf = (set5 w4 R 0 (.int .i64 3) (.int .i64 n) (.string ⟨#[]⟩) (.slice none 0 0) (.slice none 0 0)).drew := ⟨_, rfl⟩
              change bodyPost _ _ _ _ _ (set5 w4 R 0 (.int .i64 3) (.int .i64 n) (.string ⟨#[]⟩) (.slice none 0 0) (.slice none 0 0)).drew
              rw [← hwf]
              have hx : wf.heap[R]? = some (.cells #[.int .i64 3, .int .i64 n, .string ⟨#[]⟩, .slice none 0 0, .slice none 0 0] 28 (0, 0)) := by rw [hwf, drew_heap]; exact set5_here hr4
              have hbf : Below w.heap.size w wf := by
                rw [hwf, HR.out]; exact (hb40.trans (set5_below (Nat.le_refl _))).drew
              obtain ⟨⟨x0, x1, x2, x3, x4⟩, -⟩ := box_of hx
              have HBF := Lib.hid hbf
              clear hbf hwf hx e0 e1 e2 e3 e4 f0 f1 f2 f3 f4
              refine bodyPost_ret (v := .tuple #[.agg #[.int .i64 3, .int .i64 n, .string ⟨#[]⟩, .slice none 0 0, .slice none 0 0], .string ByteArray.empty, .bool true]) (by simp [results, Tryd.results43, go_sem, x0, x1, x2, x3, x4]) rfl ?_
              exact ⟨by rw [← hsl2, List.drop_length]; rfl, HBF.out⟩
          · rw [decide_eq_false e] at hd
            have hNAz : NA = .tuple #[zeroA, .string ⟨#[]⟩, .bool false] := HNA.out.trans (if_neg e)
            subst hNAz
            clear e HNA HPD
            have HPI := Lib.hid hpi; have HFI := Lib.hid hfi; clear hpi hPs hsl hfi
            go_wp2_with fail
            rw [← HW1.out]
            refine (HPI.out).mono ?_
            rintro e3 w3 ⟨rfl, hb3⟩
            dsimp only
            have z1 := Z1.out
            have hb30 := B1.out.trans (hb3.mono (by omega))
            rw [HR.out]
            go_wp2_with fail
            go_region_held3 (fun _ => True) (exact trivial) (first | (go_at_call 56; with_reducible refine (HFI.out _ hb30.drew).mono ?_; rintro e4 w4 ⟨rfl, hb4⟩))
            have z3 := hb3.size
            have z4 := hb4.size
            have hb40 : Below R w w4 := hb30.trans ((below_drew2 _ _ hb4).mono (by omega))
            have hr4 := ((below_drew2 _ _ hb4).block R (by omega)).trans ((hb3.block R (by omega)).trans R1.out)
            obtain ⟨⟨e0, e1, e2, e3, e4⟩, f0, f1, f2, f3, f4⟩ := box_of hr4
            clear hb3 hb4 hb30 z1 z3 z4
            go_wp2
            obtain ⟨wf, hwf⟩ : ∃ wf, wf = set5 w4 R 0 (.int .i64 0) (.int .i64 0) (.string ⟨#[]⟩) (.slice none 0 0) (.slice none 0 0) := ⟨_, rfl⟩
            change bodyPost _ _ _ _ _ (set5 w4 R 0 (.int .i64 0) (.int .i64 0) (.string ⟨#[]⟩) (.slice none 0 0) (.slice none 0 0))
            rw [← hwf]
            have hx : wf.heap[R]? = some (.cells #[.int .i64 0, .int .i64 0, .string ⟨#[]⟩, .slice none 0 0, .slice none 0 0] 28 (0, 0)) := by rw [hwf]; exact set5_here hr4
            have hbf : Below w.heap.size w wf := by
              rw [hwf, HR.out]; exact hb40.trans (set5_below (Nat.le_refl _))
            obtain ⟨⟨x0, x1, x2, x3, x4⟩, -⟩ := box_of hx
            have HBF := Lib.hid hbf
            clear hbf hwf hx e0 e1 e2 e3 e4 f0 f1 f2 f3 f4
            refine bodyPost_ret (v := .tuple #[zeroA, .string ⟨#[]⟩, .bool false]) (by simp [results, Tryd.results43, go_sem, zeroA, x0, x1, x2, x3, x4]) rfl ?_
            exact ⟨rfl, HBF.out⟩
      · have hks : k < s.size := by omega
        have hnc : numC s[k] = false := by
          cases hx : numC s[k] with
          | false => rfl
          | true => exact absurd ⟨hks, fun _ => hx⟩ hlt
        rw [numC_is, Bool.or_eq_false_iff, decide_eq_false_iff_not, decide_eq_false_iff_not] at hnc
        obtain ⟨n45, n09⟩ := hnc
        have hu := s[k].toNat_lt
        have t1 : ((s[k].toNat : Int) == 45) = false := by simp; omega
        clear hlt hke
        by_cases h48 : 48 ≤ s[k].toNat
        · have t2 : decide ((48 : Int) ≤ (s[k].toNat : Int)) = true := by simp; omega
          have t3 : decide ((s[k].toNat : Int) ≤ 57) = false := by simp; omega
          clear n45 n09 h48
          rcases PR with n | _ | _
          rotate_left 1
          ·
            have hNAz : NA = .tuple #[zeroA, .string ⟨#[]⟩, .bool false] := HNA.out
            subst hNAz
            obtain ⟨ev, hev, hev'⟩ := K1.out.syn
            have hpi := Tryd.strconv_ParseInt_10_at64_bad (s.extract 0 k) (by omega) (by rw [HPR.out]; rfl) ev W1 hev hev'
            have HPI := Lib.hid hpi; clear hpi hPs hsl hev hev'
            go_wp2_with fail
            rw [← HW1.out]
            refine (HPI.out).mono ?_
            rintro e3 w3 ⟨N, rfl, hN1, hN2, hb3⟩
            dsimp only
            have z1 := Z1.out
            have hr3 := (hb3.block R (by omega)).trans R1.out
            obtain ⟨⟨e0, e1, e2, e3, e4⟩, f0, f1, f2, f3, f4⟩ := box_of hr3
            rw [HR.out]
            go_wp2_with fail
            go_region
            all_goals
              go_wp2
              obtain ⟨wf, hwf⟩ : ∃ wf, wf = (set5 w3 R 0 (.int .i64 0) (.int .i64 0) (.string ⟨#[]⟩) (.slice none 0 0) (.slice none 0 0)).drew := ⟨_, rfl⟩
              change bodyPost _ _ _ _ _ (set5 w3 R 0 (.int .i64 0) (.int .i64 0) (.string ⟨#[]⟩) (.slice none 0 0) (.slice none 0 0)).drew
              rw [← hwf]
              have hx : wf.heap[R]? = some (.cells #[.int .i64 0, .int .i64 0, .string ⟨#[]⟩, .slice none 0 0, .slice none 0 0] 28 (0, 0)) := by rw [hwf, drew_heap]; exact set5_here hr3
              have hbf : Below w.heap.size w wf := by
                rw [hwf, HR.out]; exact ((B1.out.trans (hb3.mono (by omega))).trans (set5_below (Nat.le_refl _))).drew
              obtain ⟨⟨x0, x1, x2, x3, x4⟩, -⟩ := box_of hx
              have HBF := Lib.hid hbf
              clear hbf hwf hx e0 e1 e2 e3 e4 f0 f1 f2 f3 f4
              refine bodyPost_ret (v := .tuple #[zeroA, .string ⟨#[]⟩, .bool false]) (by simp [results, Tryd.results43, go_sem, zeroA, x0, x1, x2, x3, x4]) rfl ?_
              exact ⟨rfl, HBF.out⟩
          ·
            have hNAz : NA = .tuple #[zeroA, .string ⟨#[]⟩, .bool false] := HNA.out
            subst hNAz
            obtain ⟨ev, hev, hev'⟩ := K1.out.rng
            have hpi := Tryd.strconv_ParseInt_10_at64_range (s.extract 0 k) (by omega) HPR.out ev W1 hev hev'
            have HPI := Lib.hid hpi; clear hpi hPs hsl hev hev'
            go_wp2_with fail
            rw [← HW1.out]
            refine (HPI.out).mono ?_
            rintro e3 w3 ⟨N, rfl, hN1, hN2, hb3⟩
            dsimp only
            have z1 := Z1.out
            have hr3 := (hb3.block R (by omega)).trans R1.out
            obtain ⟨⟨e0, e1, e2, e3, e4⟩, f0, f1, f2, f3, f4⟩ := box_of hr3
            rw [HR.out]
            go_wp2_with fail
            go_region
            all_goals
              go_wp2
              obtain ⟨wf, hwf⟩ : ∃ wf, wf = (set5 w3 R 0 (.int .i64 0) (.int .i64 0) (.string ⟨#[]⟩) (.slice none 0 0) (.slice none 0 0)).drew := ⟨_, rfl⟩
              change bodyPost _ _ _ _ _ (set5 w3 R 0 (.int .i64 0) (.int .i64 0) (.string ⟨#[]⟩) (.slice none 0 0) (.slice none 0 0)).drew
              rw [← hwf]
              have hx : wf.heap[R]? = some (.cells #[.int .i64 0, .int .i64 0, .string ⟨#[]⟩, .slice none 0 0, .slice none 0 0] 28 (0, 0)) := by rw [hwf, drew_heap]; exact set5_here hr3
              have hbf : Below w.heap.size w wf := by
                rw [hwf, HR.out]; exact ((B1.out.trans (hb3.mono (by omega))).trans (set5_below (Nat.le_refl _))).drew
              obtain ⟨⟨x0, x1, x2, x3, x4⟩, -⟩ := box_of hx
              have HBF := Lib.hid hbf
              clear hbf hwf hx e0 e1 e2 e3 e4 f0 f1 f2 f3 f4
              refine bodyPost_ret (v := .tuple #[zeroA, .string ⟨#[]⟩, .bool false]) (by simp [results, Tryd.results43, go_sem, zeroA, x0, x1, x2, x3, x4]) rfl ?_
              exact ⟨rfl, HBF.out⟩
          ·
            have hin := parseI_in HPR.out
            have hpi : Calls Tryd.prog 55 #[.string (s.extract 0 k), .int .i64 10, .int .i64 64] W1 fun e w' => e = .returned (.tuple #[.int .i64 n, .nilIface]) ∧ Below W1.heap.size W1 w' := (Tryd.strconv_ParseInt_10_at64_ok (s.extract 0 k) (by omega) n HPR.out W1).mono (fun e w' ⟨h1, h2⟩ => ⟨h1, by
              rcases h2 with rfl | ⟨t, rfl⟩
              · exact Below.refl _ _
              · exact below_bytes _ _ _⟩)
            have hfi := fun wq (hb : Below R w wq) => formatInt_any n hin.1 hin.2 wq R (KitW.out.below hb).toTab
            have hd : (decI n == (s.extract 0 k).toList) = decide (decI n = numL s.data.toList) := by
              have hd0 : (s.extract 0 k).toList = numL s.data.toList := (ByteArray.toList_eq (s.extract 0 k)).trans HPD.out
              rw [hd0, Bool.eq_iff_iff]; simp
            by_cases e : decI n = numL s.data.toList
            · rw [decide_eq_true e] at hd
              have hNAy : NA = .tuple #[.agg #[.int .i64 3, .int .i64 n, .string ⟨#[]⟩, .slice none 0 0, .slice none 0 0], .string ⟨(s.data.toList.drop k).toArray⟩, .bool true] := HNA.out.trans (if_pos e)
              subst hNAy
              clear e HNA HPD
              have HPI := Lib.hid hpi; have HFI := Lib.hid hfi; clear hpi hPs hsl hfi
              go_wp2_with fail
              rw [← HW1.out]
              refine (HPI.out).mono ?_
              rintro e3 w3 ⟨rfl, hb3⟩
              dsimp only
              have z1 := Z1.out
              have hb30 := B1.out.trans (hb3.mono (by omega))
              rw [HR.out]
              go_wp2_with fail
              go_region_held3 (fun _ => True) (exact trivial) (first | (go_at_call 56; with_reducible refine (HFI.out _ hb30.drew).mono ?_; rintro e4 w4 ⟨rfl, hb4⟩))
              have z3 := hb3.size
              have z4 := hb4.size
              have hb40 : Below R w w4 := hb30.trans ((below_drew2 _ _ hb4).mono (by omega))
              have hr4 := ((below_drew2 _ _ hb4).block R (by omega)).trans ((hb3.block R (by omega)).trans R1.out)
              obtain ⟨⟨e0, e1, e2, e3, e4⟩, f0, f1, f2, f3, f4⟩ := box_of hr4
              clear hb3 hb4 hb30 z1 z3 z4
              go_wp2_with fail
              go_region
              all_goals
                go_wp2
                obtain ⟨wf, hwf⟩ : ∃ wf, wf = (set5 w4 R 0 (.int .i64 3) (.int .i64 n) (.string ⟨#[]⟩) (.slice none 0 0) (.slice none 0 0)).drew := ⟨_, rfl⟩
                change bodyPost _ _ _ _ _ (set5 w4 R 0 (.int .i64 3) (.int .i64 n) (.string ⟨#[]⟩) (.slice none 0 0) (.slice none 0 0)).drew
                rw [← hwf]
                have hx : wf.heap[R]? = some (.cells #[.int .i64 3, .int .i64 n, .string ⟨#[]⟩, .slice none 0 0, .slice none 0 0] 28 (0, 0)) := by rw [hwf, drew_heap]; exact set5_here hr4
                have hbf : Below w.heap.size w wf := by
                  rw [hwf, HR.out]; exact (hb40.trans (set5_below (Nat.le_refl _))).drew
                obtain ⟨⟨x0, x1, x2, x3, x4⟩, -⟩ := box_of hx
                have HBF := Lib.hid hbf
                clear hbf hwf hx e0 e1 e2 e3 e4 f0 f1 f2 f3 f4
                refine bodyPost_ret (v := .tuple #[.agg #[.int .i64 3, .int .i64 n, .string ⟨#[]⟩, .slice none 0 0, .slice none 0 0], .string (s.extract k s.size), .bool true]) (by simp [results, Tryd.results43, go_sem, x0, x1, x2, x3, x4]) rfl ?_
                exact ⟨by rw [HXS.out], HBF.out⟩
            · rw [decide_eq_false e] at hd
              have hNAz : NA = .tuple #[zeroA, .string ⟨#[]⟩, .bool false] := HNA.out.trans (if_neg e)
              subst hNAz
              clear e HNA HPD
              have HPI := Lib.hid hpi; have HFI := Lib.hid hfi; clear hpi hPs hsl hfi
              go_wp2_with fail
              rw [← HW1.out]
              refine (HPI.out).mono ?_
              rintro e3 w3 ⟨rfl, hb3⟩
              dsimp only
              have z1 := Z1.out
              have hb30 := B1.out.trans (hb3.mono (by omega))
              rw [HR.out]
              go_wp2_with fail
              go_region_held3 (fun _ => True) (exact trivial) (first | (go_at_call 56; with_reducible refine (HFI.out _ hb30.drew).mono ?_; rintro e4 w4 ⟨rfl, hb4⟩))
              have z3 := hb3.size
              have z4 := hb4.size
              have hb40 : Below R w w4 := hb30.trans ((below_drew2 _ _ hb4).mono (by omega))
              have hr4 := ((below_drew2 _ _ hb4).block R (by omega)).trans ((hb3.block R (by omega)).trans R1.out)
              obtain ⟨⟨e0, e1, e2, e3, e4⟩, f0, f1, f2, f3, f4⟩ := box_of hr4
              clear hb3 hb4 hb30 z1 z3 z4
              go_wp2
              obtain ⟨wf, hwf⟩ : ∃ wf, wf = set5 w4 R 0 (.int .i64 0) (.int .i64 0) (.string ⟨#[]⟩) (.slice none 0 0) (.slice none 0 0) := ⟨_, rfl⟩
              change bodyPost _ _ _ _ _ (set5 w4 R 0 (.int .i64 0) (.int .i64 0) (.string ⟨#[]⟩) (.slice none 0 0) (.slice none 0 0))
              rw [← hwf]
              have hx : wf.heap[R]? = some (.cells #[.int .i64 0, .int .i64 0, .string ⟨#[]⟩, .slice none 0 0, .slice none 0 0] 28 (0, 0)) := by rw [hwf]; exact set5_here hr4
              have hbf : Below w.heap.size w wf := by
                rw [hwf, HR.out]; exact hb40.trans (set5_below (Nat.le_refl _))
              obtain ⟨⟨x0, x1, x2, x3, x4⟩, -⟩ := box_of hx
              have HBF := Lib.hid hbf
              clear hbf hwf hx e0 e1 e2 e3 e4 f0 f1 f2 f3 f4
              refine bodyPost_ret (v := .tuple #[zeroA, .string ⟨#[]⟩, .bool false]) (by simp [results, Tryd.results43, go_sem, zeroA, x0, x1, x2, x3, x4]) rfl ?_
              exact ⟨rfl, HBF.out⟩
        · have t2 : decide ((48 : Int) ≤ (s[k].toNat : Int)) = false := by simp; omega
          clear n45 n09 h48
          rcases PR with n | _ | _
          rotate_left 1
          ·
            have hNAz : NA = .tuple #[zeroA, .string ⟨#[]⟩, .bool false] := HNA.out
            subst hNAz
            obtain ⟨ev, hev, hev'⟩ := K1.out.syn
            have hpi := Tryd.strconv_ParseInt_10_at64_bad (s.extract 0 k) (by omega) (by rw [HPR.out]; rfl) ev W1 hev hev'
            have HPI := Lib.hid hpi; clear hpi hPs hsl hev hev'
            go_wp2_with fail
            rw [← HW1.out]
            refine (HPI.out).mono ?_
            rintro e3 w3 ⟨N, rfl, hN1, hN2, hb3⟩
            dsimp only
            have z1 := Z1.out
            have hr3 := (hb3.block R (by omega)).trans R1.out
            obtain ⟨⟨e0, e1, e2, e3, e4⟩, f0, f1, f2, f3, f4⟩ := box_of hr3
            rw [HR.out]
            go_wp2_with fail
            go_region
            all_goals
              go_wp2
              obtain ⟨wf, hwf⟩ : ∃ wf, wf = (set5 w3 R 0 (.int .i64 0) (.int .i64 0) (.string ⟨#[]⟩) (.slice none 0 0) (.slice none 0 0)).drew := ⟨_, rfl⟩
              change bodyPost _ _ _ _ _ (set5 w3 R 0 (.int .i64 0) (.int .i64 0) (.string ⟨#[]⟩) (.slice none 0 0) (.slice none 0 0)).drew
              rw [← hwf]
              have hx : wf.heap[R]? = some (.cells #[.int .i64 0, .int .i64 0, .string ⟨#[]⟩, .slice none 0 0, .slice none 0 0] 28 (0, 0)) := by rw [hwf, drew_heap]; exact set5_here hr3
              have hbf : Below w.heap.size w wf := by
                rw [hwf, HR.out]; exact ((B1.out.trans (hb3.mono (by omega))).trans (set5_below (Nat.le_refl _))).drew
              obtain ⟨⟨x0, x1, x2, x3, x4⟩, -⟩ := box_of hx
              have HBF := Lib.hid hbf
              clear hbf hwf hx e0 e1 e2 e3 e4 f0 f1 f2 f3 f4
              refine bodyPost_ret (v := .tuple #[zeroA, .string ⟨#[]⟩, .bool false]) (by simp [results, Tryd.results43, go_sem, zeroA, x0, x1, x2, x3, x4]) rfl ?_
              exact ⟨rfl, HBF.out⟩
          ·
            have hNAz : NA = .tuple #[zeroA, .string ⟨#[]⟩, .bool false] := HNA.out
            subst hNAz
            obtain ⟨ev, hev, hev'⟩ := K1.out.rng
            have hpi := Tryd.strconv_ParseInt_10_at64_range (s.extract 0 k) (by omega) HPR.out ev W1 hev hev'
            have HPI := Lib.hid hpi; clear hpi hPs hsl hev hev'
            go_wp2_with fail
            rw [← HW1.out]
            refine (HPI.out).mono ?_
            rintro e3 w3 ⟨N, rfl, hN1, hN2, hb3⟩
            dsimp only
            have z1 := Z1.out
            have hr3 := (hb3.block R (by omega)).trans R1.out
            obtain ⟨⟨e0, e1, e2, e3, e4⟩, f0, f1, f2, f3, f4⟩ := box_of hr3
            rw [HR.out]
            go_wp2_with fail
            go_region
            all_goals
              go_wp2
              obtain ⟨wf, hwf⟩ : ∃ wf, wf = (set5 w3 R 0 (.int .i64 0) (.int .i64 0) (.string ⟨#[]⟩) (.slice none 0 0) (.slice none 0 0)).drew := ⟨_, rfl⟩
              change bodyPost _ _ _ _ _ (set5 w3 R 0 (.int .i64 0) (.int .i64 0) (.string ⟨#[]⟩) (.slice none 0 0) (.slice none 0 0)).drew
              rw [← hwf]
              have hx : wf.heap[R]? = some (.cells #[.int .i64 0, .int .i64 0, .string ⟨#[]⟩, .slice none 0 0, .slice none 0 0] 28 (0, 0)) := by rw [hwf, drew_heap]; exact set5_here hr3
              have hbf : Below w.heap.size w wf := by
                rw [hwf, HR.out]; exact ((B1.out.trans (hb3.mono (by omega))).trans (set5_below (Nat.le_refl _))).drew
              obtain ⟨⟨x0, x1, x2, x3, x4⟩, -⟩ := box_of hx
              have HBF := Lib.hid hbf
              clear hbf hwf hx e0 e1 e2 e3 e4 f0 f1 f2 f3 f4
              refine bodyPost_ret (v := .tuple #[zeroA, .string ⟨#[]⟩, .bool false]) (by simp [results, Tryd.results43, go_sem, zeroA, x0, x1, x2, x3, x4]) rfl ?_
              exact ⟨rfl, HBF.out⟩
          ·
            have hin := parseI_in HPR.out
            have hpi : Calls Tryd.prog 55 #[.string (s.extract 0 k), .int .i64 10, .int .i64 64] W1 fun e w' => e = .returned (.tuple #[.int .i64 n, .nilIface]) ∧ Below W1.heap.size W1 w' := (Tryd.strconv_ParseInt_10_at64_ok (s.extract 0 k) (by omega) n HPR.out W1).mono (fun e w' ⟨h1, h2⟩ => ⟨h1, by
              rcases h2 with rfl | ⟨t, rfl⟩
              · exact Below.refl _ _
              · exact below_bytes _ _ _⟩)
            have hfi := fun wq (hb : Below R w wq) => formatInt_any n hin.1 hin.2 wq R (KitW.out.below hb).toTab
            have hd : (decI n == (s.extract 0 k).toList) = decide (decI n = numL s.data.toList) := by
              have hd0 : (s.extract 0 k).toList = numL s.data.toList := (ByteArray.toList_eq (s.extract 0 k)).trans HPD.out
              rw [hd0, Bool.eq_iff_iff]; simp
            by_cases e : decI n = numL s.data.toList
            · rw [decide_eq_true e] at hd
              have hNAy : NA = .tuple #[.agg #[.int .i64 3, .int .i64 n, .string ⟨#[]⟩, .slice none 0 0, .slice none 0 0], .string ⟨(s.data.toList.drop k).toArray⟩, .bool true] := HNA.out.trans (if_pos e)
              subst hNAy
              clear e HNA HPD
              have HPI := Lib.hid hpi; have HFI := Lib.hid hfi; clear hpi hPs hsl hfi
              go_wp2_with fail
              rw [← HW1.out]
              refine (HPI.out).mono ?_
              rintro e3 w3 ⟨rfl, hb3⟩
              dsimp only
              have z1 := Z1.out
              have hb30 := B1.out.trans (hb3.mono (by omega))
              rw [HR.out]
              go_wp2_with fail
              go_region_held3 (fun _ => True) (exact trivial) (first | (go_at_call 56; with_reducible refine (HFI.out _ hb30.drew).mono ?_; rintro e4 w4 ⟨rfl, hb4⟩))
              have z3 := hb3.size
              have z4 := hb4.size
              have hb40 : Below R w w4 := hb30.trans ((below_drew2 _ _ hb4).mono (by omega))
              have hr4 := ((below_drew2 _ _ hb4).block R (by omega)).trans ((hb3.block R (by omega)).trans R1.out)
              obtain ⟨⟨e0, e1, e2, e3, e4⟩, f0, f1, f2, f3, f4⟩ := box_of hr4
              clear hb3 hb4 hb30 z1 z3 z4
              go_wp2_with fail
              go_region
              all_goals
                go_wp2
                obtain ⟨wf, hwf⟩ : ∃ wf, wf = (set5 w4 R 0 (.int .i64 3) (.int .i64 n) (.string ⟨#[]⟩) (.slice none 0 0) (.slice none 0 0)).drew := ⟨_, rfl⟩
                change bodyPost _ _ _ _ _ (set5 w4 R 0 (.int .i64 3) (.int .i64 n) (.string ⟨#[]⟩) (.slice none 0 0) (.slice none 0 0)).drew
                rw [← hwf]
                have hx : wf.heap[R]? = some (.cells #[.int .i64 3, .int .i64 n, .string ⟨#[]⟩, .slice none 0 0, .slice none 0 0] 28 (0, 0)) := by rw [hwf, drew_heap]; exact set5_here hr4
                have hbf : Below w.heap.size w wf := by
                  rw [hwf, HR.out]; exact (hb40.trans (set5_below (Nat.le_refl _))).drew
                obtain ⟨⟨x0, x1, x2, x3, x4⟩, -⟩ := box_of hx
                have HBF := Lib.hid hbf
                clear hbf hwf hx e0 e1 e2 e3 e4 f0 f1 f2 f3 f4
                refine bodyPost_ret (v := .tuple #[.agg #[.int .i64 3, .int .i64 n, .string ⟨#[]⟩, .slice none 0 0, .slice none 0 0], .string (s.extract k s.size), .bool true]) (by simp [results, Tryd.results43, go_sem, x0, x1, x2, x3, x4]) rfl ?_
                exact ⟨by rw [HXS.out], HBF.out⟩
            · rw [decide_eq_false e] at hd
              have hNAz : NA = .tuple #[zeroA, .string ⟨#[]⟩, .bool false] := HNA.out.trans (if_neg e)
              subst hNAz
              clear e HNA HPD
              have HPI := Lib.hid hpi; have HFI := Lib.hid hfi; clear hpi hPs hsl hfi
              go_wp2_with fail
              rw [← HW1.out]
              refine (HPI.out).mono ?_
              rintro e3 w3 ⟨rfl, hb3⟩
              dsimp only
              have z1 := Z1.out
              have hb30 := B1.out.trans (hb3.mono (by omega))
              rw [HR.out]
              go_wp2_with fail
              go_region_held3 (fun _ => True) (exact trivial) (first | (go_at_call 56; with_reducible refine (HFI.out _ hb30.drew).mono ?_; rintro e4 w4 ⟨rfl, hb4⟩))
              have z3 := hb3.size
              have z4 := hb4.size
              have hb40 : Below R w w4 := hb30.trans ((below_drew2 _ _ hb4).mono (by omega))
              have hr4 := ((below_drew2 _ _ hb4).block R (by omega)).trans ((hb3.block R (by omega)).trans R1.out)
              obtain ⟨⟨e0, e1, e2, e3, e4⟩, f0, f1, f2, f3, f4⟩ := box_of hr4
              clear hb3 hb4 hb30 z1 z3 z4
              go_wp2
              obtain ⟨wf, hwf⟩ : ∃ wf, wf = set5 w4 R 0 (.int .i64 0) (.int .i64 0) (.string ⟨#[]⟩) (.slice none 0 0) (.slice none 0 0) := ⟨_, rfl⟩
              change bodyPost _ _ _ _ _ (set5 w4 R 0 (.int .i64 0) (.int .i64 0) (.string ⟨#[]⟩) (.slice none 0 0) (.slice none 0 0))
              rw [← hwf]
              have hx : wf.heap[R]? = some (.cells #[.int .i64 0, .int .i64 0, .string ⟨#[]⟩, .slice none 0 0, .slice none 0 0] 28 (0, 0)) := by rw [hwf]; exact set5_here hr4
              have hbf : Below w.heap.size w wf := by
                rw [hwf, HR.out]; exact hb40.trans (set5_below (Nat.le_refl _))
              obtain ⟨⟨x0, x1, x2, x3, x4⟩, -⟩ := box_of hx
              have HBF := Lib.hid hbf
              clear hbf hwf hx e0 e1 e2 e3 e4 f0 f1 f2 f3 f4
              refine bodyPost_ret (v := .tuple #[zeroA, .string ⟨#[]⟩, .bool false]) (by simp [results, Tryd.results43, go_sem, zeroA, x0, x1, x2, x3, x4]) rfl ?_
              exact ⟨rfl, HBF.out⟩
end Go.Proofs.YtcbajbpdgmmaeaaDoor
