/- Texts merged by program, in build order: RefUri. -/
import Derived.Test.YtiofgepfcacgjaaDoorG13
set_option linter.unusedVariables false
set_option linter.unusedSimpArgs false
namespace Go.Proofs.YtiofgepfcacgjaaDoor
open Go.RowKit

theorem oddRef_any (c : UInt8) (w : World) :
    Calls Tryd.prog 52 #[.string ⟨#[34, 35, 60, 62, 92, 94, 96, 123, 124, 125]⟩, .int .u8 c.toNat] w fun e w' => e = .returned (.int .i64 (atL c refOdd)) ∧ w = w' := at_any ⟨#[34, 35, 60, 62, 92, 94, 96, 123, 124, 125]⟩ c (by decide) w
theorem ext_toList (s : ByteArray) (k : Nat) : (s.extract 0 k).toList = s.data.toList.take k := by rw [ByteArray.toList_eq, ext_pre]
theorem ext_pre_list (s : ByteArray) (k : Nat) : (s.extract 0 k).data.toList = s.data.toList.take k := by rw [ext_pre]
theorem ext_suf_list (s : ByteArray) (k : Nat) : (s.extract k s.size).data.toList = s.data.toList.drop k := by rw [ext_suf]
theorem str_of (s : ByteArray) : str s.data.toList = s := (str_eta s).symm
theorem uval_eta (sch : List UInt8) (H P Q : ByteArray) : uval (sch, H.data.toList, P.data.toList, Q.data.toList) = .agg #[.string (str sch), .string H, .string P, .string Q] := by
  unfold uval; rw [str_of, str_of, str_of]
theorem uval_eta0 (sch : List UInt8) (H P : ByteArray) : uval (sch, H.data.toList, P.data.toList, []) = .agg #[.string (str sch), .string H, .string P, .string ⟨#[]⟩] := by
  unfold uval; rw [str_of, str_of]
theorem below_two (w : World) (o o' : Obj) : Below w.heap.size w ((w.alloc o).alloc o') := ((Below.refl _ _).alloc (Nat.le_refl _) _).alloc (by simp) _
theorem restU_nil (sch : List UInt8) : restU sch [] = none := by simp [restU, frontL, atL]
theorem uri_a {l : List UInt8} (hc : okL l = true) (h : l.take 7 = httpL ++ [58, 47, 47]) : uriL l = restU httpL (l.drop 7) := by unfold uriL; rw [if_pos hc, if_pos h]
theorem not_both {l : List UInt8} (h : l.take 8 = httpsL ++ [58, 47, 47]) : l.take 7 ≠ httpL ++ [58, 47, 47] := fun h' => by
  have e := congrArg (List.take 7) h
  rw [List.take_take, show min 7 8 = 7 from rfl, h'] at e
  revert e; decide
theorem uri_b {l : List UInt8} (hc : okL l = true) (h : l.take 8 = httpsL ++ [58, 47, 47]) : uriL l = restU httpsL (l.drop 8) := by
  unfold uriL; rw [if_pos hc, if_neg (not_both h), if_pos h]
theorem uri_no {l : List UInt8} (h7 : ¬ (7 < l.length ∧ l.take 7 = httpL ++ [58, 47, 47])) (h8 : ¬ (8 < l.length ∧ l.take 8 = httpsL ++ [58, 47, 47])) : uriL l = none := by
  unfold uriL
  by_cases hc : okL l = true
  · rw [if_pos hc]
    by_cases h1 : l.take 7 = httpL ++ [58, 47, 47]
    · rw [if_pos h1]
      have : l.length ≤ 7 := by
        rcases Nat.lt_or_ge 7 l.length with h | h
        · exact absurd ⟨h, h1⟩ h7
        · exact h
      rw [List.drop_eq_nil_of_le this, restU_nil]
    · rw [if_neg h1]
      by_cases h2 : l.take 8 = httpsL ++ [58, 47, 47]
      · rw [if_pos h2]
        have : l.length ≤ 8 := by
          rcases Nat.lt_or_ge 8 l.length with h | h
          · exact absurd ⟨h, h2⟩ h8
          · exact h
        rw [List.drop_eq_nil_of_le this, restU_nil]
      · rw [if_neg h2]
  · rw [if_neg hc]
theorem rest_some {r : List UInt8} (sch : List UInt8) {F : List UInt8} (hF : frontL r = F) (h0 : F.take (atL 47 F) ≠ []) (h : ∀ j (hj : j < (F.take (atL 47 F)).length), hostB (F.take (atL 47 F))[j] = true) :
    restU sch r = some (sch, F.take (atL 47 F), F.drop (atL 47 F), queryL r) := by
  unfold restU
  rw [hF, if_pos ⟨h0, by rw [List.all_eq_true]; intro x hx; obtain ⟨j, hj, rfl⟩ := List.getElem_of_mem hx; exact h j hj⟩]
theorem rest_none {r : List UInt8} (sch : List UInt8) {F : List UInt8} (hF : frontL r = F) (h : F.take (atL 47 F) = [] ∨ ∃ j, ∃ hj : j < (F.take (atL 47 F)).length, hostB (F.take (atL 47 F))[j] = false) : restU sch r = none := by
  unfold restU
  rw [hF, if_neg]
  rintro ⟨h1, h2⟩
  rcases h with h | ⟨j, hj, h⟩
  · exact h1 h
  · rw [List.all_eq_true] at h2
    rw [h2 _ (List.getElem_mem hj)] at h; cases h
set_option maxRecDepth 100000 in
set_option maxHeartbeats 4000000 in
theorem refUri_any (s : ByteArray) (hs : s.size ≤ maxLen) (w : World) :
    Calls Tryd.prog 30 #[.string s] w fun e w' => e = uriSays s.data.toList ∧ Below w.heap.size w w' := by
  have hs' := hs
  unfold maxLen at hs
  have hsz : s.data.toList.length = s.size := rfl
  by_cases hl : 4096 < s.size
  · obtain ⟨hE, hV⟩ := uri_large (l := s.data.toList) hl
    have HE := Lib.hid hE; have HV := Lib.hid hV; clear hE hV
    go_enter Tryd.func30, Tryd.ntmps30
    go_wp2
    refine bodyPost_ret (v := .tuple #[uval noU, .int .i64 3]) (by simp [results, Tryd.results30, go_sem, uval, noU, str]) rfl ⟨?_, ?_⟩
    · unfold uriSays; rw [HE.out, HV.out]
    · exact (Below.refl _ _).alloc (Nat.le_refl _) _
  have hl4 : s.data.toList.length ≤ 4096 := by omega
  have hbadP : uriL s.data.toList = none → Ending.returned (.tuple #[uval noU, .int .i64 2]) = uriSays s.data.toList := fun h => by
    unfold uriSays; rw [(uri_bad hl4 h).1, (uri_bad hl4 h).2]
  have hgoodP : ∀ q, uriL s.data.toList = some q → Ending.returned (.tuple #[uval q, .int .i64 0]) = uriSays s.data.toList := fun q h => by
    unfold uriSays; rw [(uri_good hl4 h).1, (uri_good hl4 h).2]
  have H2 := Lib.hid hbadP; have H3 := Lib.hid hgoodP; clear hbadP hgoodP
  go_enter Tryd.func30, Tryd.ntmps30
  go_wp2
  go_loop [4] (fun i => ∃ k : Nat, k ≤ s.size ∧ i = .int .i64 k ∧ ∀ j (hj : j < s.data.toList.length), j < k → charB s.data.toList[j] = true) (fun i => s.size - (intOf i).toNat)
  case atStart => exact ⟨0, Nat.zero_le _, rfl, fun _ _ h => absurd h (Nat.not_lt_zero _)⟩
  case round =>
    obtain ⟨k, hk, rfl, hb⟩ := hrel
    have HB := Lib.hid hb; clear hb
    by_cases hlt : k < s.size
    · have hno : charB s[k] = false → okL s.data.toList = false := fun h => all_false (l := s.data.toList) hlt h
      have hyes : charB s[k] = true → ∀ j (hj : j < s.data.toList.length), j < k + 1 → charB s.data.toList[j] = true := fun h j hj hjk => by
        rcases Nat.lt_succ_iff_lt_or_eq.1 hjk with h' | h'
        · exact HB.out j hj h'
        · subst h'; exact h
      have HNO := Lib.hid hno; have HYES := Lib.hid hyes; clear hno hyes
      by_cases h33 : s[k].toNat < 33
      · have hd : decide ((s[k].toNat : Int) < 33) = true := by simp; omega
        have hc := H2.out (uri_char (HNO.out (by unfold charB; rw [show decide (33 ≤ s[k].toNat) = false by simp; omega]; rfl)))
        have HC := Lib.hid hc; clear hc
        go_wp2
        refine bodyPost_ret (v := .tuple #[uval noU, .int .i64 2]) (by simp [results, Tryd.results30, go_sem, uval, noU, str]) rfl ⟨HC.out, ?_⟩
        exact (Below.refl _ _).alloc (Nat.le_refl _) _
      · have hd : decide ((s[k].toNat : Int) < 33) = false := by simp; omega
        by_cases h126 : 126 < s[k].toNat
        · have hd2 : decide ((126 : Int) < (s[k].toNat : Int)) = true := by simp; omega
          have hc := H2.out (uri_char (HNO.out (by unfold charB; rw [show decide (s[k].toNat ≤ 126) = false by simp; omega]; simp)))
          have HC := Lib.hid hc; clear hc
          go_wp2
          refine bodyPost_ret (v := .tuple #[uval noU, .int .i64 2]) (by simp [results, Tryd.results30, go_sem, uval, noU, str]) rfl ⟨HC.out, ?_⟩
          exact (Below.refl _ _).alloc (Nat.le_refl _) _
        · have hd2 : decide ((126 : Int) < (s[k].toNat : Int)) = false := by simp; omega
          have hcall := oddRef_any s[k]
          have hodd := odd_ref s[k]
          have hodd' : decide ((atL s[k] refOdd : Int) < 10) = oddB s[k] := by rw [← hodd, decide_eq_decide]; omega
          clear hodd
          generalize atL s[k] refOdd = ix at *
          cases he : oddB s[k] with
          | true =>
            rw [he] at hodd'
            have hc := H2.out (uri_char (HNO.out (by unfold charB; rw [he]; simp)))
            have HC := Lib.hid hc; clear hc he
            go_wp2_with fail
            refine (hcall _).mono ?_
            rintro e w' ⟨rfl, rfl⟩
            go_wp2
            refine bodyPost_ret (v := .tuple #[uval noU, .int .i64 2]) (by simp [results, Tryd.results30, go_sem, uval, noU, str]) rfl ⟨HC.out, ?_⟩
            exact (Below.refl _ _).alloc (Nat.le_refl _) _
          | false =>
            rw [he] at hodd'
            have hc := HYES.out (by unfold charB; rw [he]; simp; omega)
            have HC := Lib.hid hc; clear hc he
            go_wp2_with fail
            refine (hcall _).mono ?_
            rintro e w' ⟨rfl, rfl⟩
            go_wp2
            go_round
            case rel => exact ⟨k + 1, by omega, by go_num, HC.out⟩
            case measure => simp [intOf]; omega
    · have hke : k = s.size := by omega
      subst hke
      have hok := all_true (fun j hj => HB.out j hj hj)
      clear HB
      by_cases hA : 7 < s.size ∧ s.data.toList.take 7 = httpL ++ [58, 47, 47]
      · have hu := uri_a hok hA.2
        rw [show s.data.toList.drop 7 = (s.extract 7 s.size).data.toList by rw [ext_suf]] at hu
        have hx : ((s.extract 0 7).toList == [104, 116, 116, 112, 58, 47, 47]) = true := by rw [ext_toList, hA.2]; rfl
        have h7 := hA.1
        have hRs : (s.extract 7 s.size).size ≤ 4096 := by simp [ByteArray.size_extract]; omega
        clear hA hok
        have HU := Lib.hid hu; clear hu
        go_wp2
        go_region
        generalize s.extract 7 s.size = R at *
        clear hx
        have hat1 := at_any R 63 (by unfold maxLen; omega)
        have hle1 := atL_le 63 R.data.toList
        have hfr : frontL R.data.toList = R.data.toList.take (atL 63 R.data.toList) := rfl
        have hqr : queryL R.data.toList = R.data.toList.drop (atL 63 R.data.toList + 1) := rfl
        obtain ⟨k1, hk1⟩ : ∃ k, atL 63 R.data.toList = k := ⟨_, rfl⟩
        rw [hk1] at hat1 hle1 hfr hqr
        have hRl : R.data.toList.length = R.size := rfl
        rw [hRl] at hle1
        rw [← ext_pre_list R k1] at hfr
        rw [← ext_suf_list R (k1 + 1)] at hqr
        have HFR := Lib.hid hfr; have HQR := Lib.hid hqr; have HK1 := Lib.hid hk1; clear hfr hqr hk1 hRl
        go_wp2_with fail
        refine (hat1 _).mono ?_
        rintro e w' ⟨rfl, rfl⟩
        by_cases hlt1 : k1 < R.size
        · have hd1 : decide ((k1 : Int) < (R.size : Int)) = true := by simp; omega
          have hw1 : IntKind.i64.wrap ((k1 : Int) + 1) = (k1 : Int) + 1 := wraps_i64 _ (by omega) (by omega)
          go_wp2
          go_region
          have hFs : (R.extract 0 k1).size ≤ 4096 := by simp [ByteArray.size_extract]; omega
          generalize R.extract 0 k1 = F at *
          generalize R.extract (k1 + 1) R.size = Q at *
          clear hw1 hd1 hlt1 hle1 hat1
          have hat2 := at_any F 47 (by unfold maxLen; omega)
          have hle2 := atL_le 47 F.data.toList
          have hrs := @rest_some R.data.toList httpL F.data.toList HFR.out
          have hrn := @rest_none R.data.toList httpL F.data.toList HFR.out
          rw [← HU.out, HQR.out] at hrs
          rw [← HU.out] at hrn
          obtain ⟨k2, hk2⟩ : ∃ k, atL 47 F.data.toList = k := ⟨_, rfl⟩
          rw [hk2] at hat2 hle2 hrs hrn
          have hFl : F.data.toList.length = F.size := rfl
          rw [hFl] at hle2
          rw [← ext_pre_list F k2, ← ext_suf_list F k2] at hrs
          rw [← ext_pre_list F k2] at hrn
          have hHs : (F.extract 0 k2).size ≤ 4096 := by simp [ByteArray.size_extract]; omega
          have HRS := Lib.hid (fun h1 h2 => H3.out _ (hrs h1 h2)); have HRN := Lib.hid (fun h => H2.out (hrn h)); clear hk2 hFl hrs hrn HFR HQR HU HK1
          go_wp2_with fail
          refine (hat2 _).mono ?_
          rintro e w' ⟨rfl, rfl⟩
          go_wp2
          go_region
          generalize F.extract 0 k2 = H at *
          generalize F.extract k2 F.size = P at *
          go_wp2
          go_loop [9] (fun i => ∃ j : Nat, j ≤ H.size ∧ i = .int .i64 j ∧ ∀ i (hi : i < H.data.toList.length), i < j → hostB H.data.toList[i] = true) (fun i => H.size - (intOf i).toNat)
          case atStart => exact ⟨0, Nat.zero_le _, rfl, fun _ _ h => absurd h (Nat.not_lt_zero _)⟩
          case round =>
            obtain ⟨j, hj, rfl, hb⟩ := hrel
            have HB := Lib.hid hb; clear hb
            by_cases hjl : j < H.size
            · have hno : hostB H[j] = false → Ending.returned (.tuple #[uval noU, .int .i64 2]) = uriSays s.data.toList := fun h => HRN.out (Or.inr ⟨j, hjl, h⟩)
              have hyes : hostB H[j] = true → ∀ i (hi : i < H.data.toList.length), i < j + 1 → hostB H.data.toList[i] = true := fun h i hi hij => by
                rcases Nat.lt_succ_iff_lt_or_eq.1 hij with h' | h'
                · exact HB.out i hi h'
                · subst h'; exact h
              have HNO := Lib.hid hno; have HYES := Lib.hid hyes; clear hno hyes
              have hcl : (97 ≤ H[j].toNat ∧ H[j].toNat ≤ 122) ∨ (122 < H[j].toNat) ∨ (48 ≤ H[j].toNat ∧ H[j].toNat ≤ 57) ∨ (57 < H[j].toNat ∧ H[j].toNat < 97 ∧ H[j].toNat ≠ 58) ∨ (H[j].toNat = 58) ∨ (H[j].toNat < 48 ∧ H[j].toNat ≠ 45 ∧ H[j].toNat ≠ 46) ∨ (H[j].toNat = 45) ∨ (H[j].toNat = 46) := by omega
              rcases hcl with hc | hc | hc | hc | hc | hc | hc | hc
              · have x0 : decide ((97 : Int) ≤ (H[j].toNat : Int)) = true := by simp; omega
                have x1 : decide ((H[j].toNat : Int) ≤ 122) = true := by simp; omega
                have HC := Lib.hid (HYES.out (by simp [hostB]; omega)); clear hc HYES HNO
                go_wp2
                go_round
                case rel => exact ⟨j + 1, by omega, by go_num, HC.out⟩
                case measure => simp [intOf]; omega
              · have x0 : decide ((97 : Int) ≤ (H[j].toNat : Int)) = true := by simp; omega
                have x1 : decide ((H[j].toNat : Int) ≤ 122) = false := by simp; omega
                have x2 : decide ((48 : Int) ≤ (H[j].toNat : Int)) = true := by simp; omega
                have x3 : decide ((H[j].toNat : Int) ≤ 57) = false := by simp; omega
                have x4 : ((H[j].toNat : Int) == 45) = false := by simp; omega
                have x5 : ((H[j].toNat : Int) == 46) = false := by simp; omega
                have x6 : ((H[j].toNat : Int) == 58) = false := by simp; omega
                have HC := Lib.hid (HNO.out (by simp [hostB]; omega)); clear hc HYES HNO
                go_wp2
                refine bodyPost_ret (v := .tuple #[uval noU, .int .i64 2]) (by simp [results, Tryd.results30, go_sem, uval, noU, str]) rfl ⟨HC.out, ?_⟩
                first | exact (below_two _ _ _).drew.drew.drew | exact (below_two _ _ _).drew.drew
              · have x0 : decide ((97 : Int) ≤ (H[j].toNat : Int)) = false := by simp; omega
                have x1 : decide ((48 : Int) ≤ (H[j].toNat : Int)) = true := by simp; omega
                have x2 : decide ((H[j].toNat : Int) ≤ 57) = true := by simp; omega
                have HC := Lib.hid (HYES.out (by simp [hostB]; omega)); clear hc HYES HNO
                go_wp2
                go_round
                case rel => exact ⟨j + 1, by omega, by go_num, HC.out⟩
                case measure => simp [intOf]; omega
              · have x0 : decide ((97 : Int) ≤ (H[j].toNat : Int)) = false := by simp; omega
                have x1 : decide ((48 : Int) ≤ (H[j].toNat : Int)) = true := by simp; omega
                have x2 : decide ((H[j].toNat : Int) ≤ 57) = false := by simp; omega
                have x3 : ((H[j].toNat : Int) == 45) = false := by simp; omega
                have x4 : ((H[j].toNat : Int) == 46) = false := by simp; omega
                have x5 : ((H[j].toNat : Int) == 58) = false := by simp; omega
                have HC := Lib.hid (HNO.out (by simp [hostB]; omega)); clear hc HYES HNO
                go_wp2
                refine bodyPost_ret (v := .tuple #[uval noU, .int .i64 2]) (by simp [results, Tryd.results30, go_sem, uval, noU, str]) rfl ⟨HC.out, ?_⟩
                first | exact (below_two _ _ _).drew.drew.drew | exact (below_two _ _ _).drew.drew
              · have x0 : decide ((97 : Int) ≤ (H[j].toNat : Int)) = false := by simp; omega
                have x1 : decide ((48 : Int) ≤ (H[j].toNat : Int)) = true := by simp; omega
                have x2 : decide ((H[j].toNat : Int) ≤ 57) = false := by simp; omega
                have x3 : ((H[j].toNat : Int) == 45) = false := by simp; omega
                have x4 : ((H[j].toNat : Int) == 46) = false := by simp; omega
                have x5 : ((H[j].toNat : Int) == 58) = true := by simp; omega
                have HC := Lib.hid (HYES.out (by simp [hostB]; omega)); clear hc HYES HNO
                go_wp2
                go_round
                case rel => exact ⟨j + 1, by omega, by go_num, HC.out⟩
                case measure => simp [intOf]; omega
              · have x0 : decide ((97 : Int) ≤ (H[j].toNat : Int)) = false := by simp; omega
                have x1 : decide ((48 : Int) ≤ (H[j].toNat : Int)) = false := by simp; omega
                have x2 : ((H[j].toNat : Int) == 45) = false := by simp; omega
                have x3 : ((H[j].toNat : Int) == 46) = false := by simp; omega
                have x4 : ((H[j].toNat : Int) == 58) = false := by simp; omega
                have HC := Lib.hid (HNO.out (by simp [hostB]; omega)); clear hc HYES HNO
                go_wp2
                refine bodyPost_ret (v := .tuple #[uval noU, .int .i64 2]) (by simp [results, Tryd.results30, go_sem, uval, noU, str]) rfl ⟨HC.out, ?_⟩
                first | exact (below_two _ _ _).drew.drew.drew | exact (below_two _ _ _).drew.drew
              · have x0 : decide ((97 : Int) ≤ (H[j].toNat : Int)) = false := by simp; omega
                have x1 : decide ((48 : Int) ≤ (H[j].toNat : Int)) = false := by simp; omega
                have x2 : ((H[j].toNat : Int) == 45) = true := by simp; omega
                have HC := Lib.hid (HYES.out (by simp [hostB]; omega)); clear hc HYES HNO
                go_wp2
                go_round
                case rel => exact ⟨j + 1, by omega, by go_num, HC.out⟩
                case measure => simp [intOf]; omega
              · have x0 : decide ((97 : Int) ≤ (H[j].toNat : Int)) = false := by simp; omega
                have x1 : decide ((48 : Int) ≤ (H[j].toNat : Int)) = false := by simp; omega
                have x2 : ((H[j].toNat : Int) == 45) = false := by simp; omega
                have x3 : ((H[j].toNat : Int) == 46) = true := by simp; omega
                have HC := Lib.hid (HYES.out (by simp [hostB]; omega)); clear hc HYES HNO
                go_wp2
                go_round
                case rel => exact ⟨j + 1, by omega, by go_num, HC.out⟩
                case measure => simp [intOf]; omega
            · have hje : j = H.size := by omega
              subst hje
              by_cases h0 : H.data.toList = []
              · have hE := HRN.out (Or.inl h0)
                have HE := Lib.hid hE
                have h0' : H = ⟨#[]⟩ := by apply ByteArray.ext; apply Array.ext'; exact h0
                subst h0'
                clear HRN HRS hE HB
                go_wp2
                refine bodyPost_ret (v := .tuple #[uval noU, .int .i64 2]) (by simp [results, Tryd.results30, go_sem, uval, noU, str]) rfl ⟨HE.out, ?_⟩
                first | exact (below_two _ _ _).drew.drew.drew | exact (below_two _ _ _).drew.drew
              · have hE := HRS.out h0 (fun i hi => HB.out i hi hi)
                have HE := Lib.hid hE
                clear HRN HRS hE HB
                have h0' : H.toList.isEmpty = false := by rw [ByteArray.toList_eq]; simpa using h0
                go_wp2
                refine bodyPost_ret (v := .tuple #[.agg #[.string ⟨#[104, 116, 116, 112]⟩, .string H, .string P, .string Q], .int .i64 0]) (by simp [results, Tryd.results30, go_sem]) rfl ⟨?_, ?_⟩
                · rw [← HE.out, uval_eta]; rfl
                · first | exact (below_two _ _ _).drew.drew.drew | exact (below_two _ _ _).drew.drew
        · have hd1 : decide ((k1 : Int) < (R.size : Int)) = false := by simp; omega
          have hk1 : k1 = R.size := by omega
          subst hk1
          have hRR : R.extract 0 R.size = R := by apply ByteArray.ext; simp
          have hRQ : (R.extract (R.size + 1) R.size).data.toList = (ByteArray.mk #[]).data.toList := by rw [ext_suf_list]; exact List.drop_eq_nil_of_le (Nat.le_succ _)
          rw [hRR] at HFR
          rw [hRQ] at HQR
          clear hRR hRQ
          have hat2 := at_any R 47 (by unfold maxLen; omega)
          have hle2 := atL_le 47 R.data.toList
          have hrs := @rest_some R.data.toList httpL R.data.toList HFR.out
          have hrn := @rest_none R.data.toList httpL R.data.toList HFR.out
          rw [← HU.out, HQR.out] at hrs
          rw [← HU.out] at hrn
          obtain ⟨k2, hk2⟩ : ∃ k, atL 47 R.data.toList = k := ⟨_, rfl⟩
          rw [hk2] at hat2 hle2 hrs hrn
          have hFl : R.data.toList.length = R.size := rfl
          rw [hFl] at hle2
          rw [← ext_pre_list R k2, ← ext_suf_list R k2] at hrs
          rw [← ext_pre_list R k2] at hrn
          have hHs : (R.extract 0 k2).size ≤ 4096 := by simp [ByteArray.size_extract]; omega
          have HRS := Lib.hid (fun h1 h2 => H3.out _ (hrs h1 h2)); have HRN := Lib.hid (fun h => H2.out (hrn h)); clear hk2 hFl hrs hrn HFR HQR HU HK1
          go_wp2_with fail
          refine (hat2 _).mono ?_
          rintro e w' ⟨rfl, rfl⟩
          go_wp2
          go_region
          generalize R.extract 0 k2 = H at *
          generalize R.extract k2 R.size = P at *
          go_wp2
          go_loop [9] (fun i => ∃ j : Nat, j ≤ H.size ∧ i = .int .i64 j ∧ ∀ i (hi : i < H.data.toList.length), i < j → hostB H.data.toList[i] = true) (fun i => H.size - (intOf i).toNat)
          case atStart => exact ⟨0, Nat.zero_le _, rfl, fun _ _ h => absurd h (Nat.not_lt_zero _)⟩
          case round =>
            obtain ⟨j, hj, rfl, hb⟩ := hrel
            have HB := Lib.hid hb; clear hb
            by_cases hjl : j < H.size
            · have hno : hostB H[j] = false → Ending.returned (.tuple #[uval noU, .int .i64 2]) = uriSays s.data.toList := fun h => HRN.out (Or.inr ⟨j, hjl, h⟩)
              have hyes : hostB H[j] = true → ∀ i (hi : i < H.data.toList.length), i < j + 1 → hostB H.data.toList[i] = true := fun h i hi hij => by
                rcases Nat.lt_succ_iff_lt_or_eq.1 hij with h' | h'
                · exact HB.out i hi h'
                · subst h'; exact h
              have HNO := Lib.hid hno; have HYES := Lib.hid hyes; clear hno hyes
              have hcl : (97 ≤ H[j].toNat ∧ H[j].toNat ≤ 122) ∨ (122 < H[j].toNat) ∨ (48 ≤ H[j].toNat ∧ H[j].toNat ≤ 57) ∨ (57 < H[j].toNat ∧ H[j].toNat < 97 ∧ H[j].toNat ≠ 58) ∨ (H[j].toNat = 58) ∨ (H[j].toNat < 48 ∧ H[j].toNat ≠ 45 ∧ H[j].toNat ≠ 46) ∨ (H[j].toNat = 45) ∨ (H[j].toNat = 46) := by omega
              rcases hcl with hc | hc | hc | hc | hc | hc | hc | hc
              · have x0 : decide ((97 : Int) ≤ (H[j].toNat : Int)) = true := by simp; omega
                have x1 : decide ((H[j].toNat : Int) ≤ 122) = true := by simp; omega
                have HC := Lib.hid (HYES.out (by simp [hostB]; omega)); clear hc HYES HNO
                go_wp2
                go_round
                case rel => exact ⟨j + 1, by omega, by go_num, HC.out⟩
                case measure => simp [intOf]; omega
              · have x0 : decide ((97 : Int) ≤ (H[j].toNat : Int)) = true := by simp; omega
                have x1 : decide ((H[j].toNat : Int) ≤ 122) = false := by simp; omega
                have x2 : decide ((48 : Int) ≤ (H[j].toNat : Int)) = true := by simp; omega
                have x3 : decide ((H[j].toNat : Int) ≤ 57) = false := by simp; omega
                have x4 : ((H[j].toNat : Int) == 45) = false := by simp; omega
                have x5 : ((H[j].toNat : Int) == 46) = false := by simp; omega
                have x6 : ((H[j].toNat : Int) == 58) = false := by simp; omega
                have HC := Lib.hid (HNO.out (by simp [hostB]; omega)); clear hc HYES HNO
                go_wp2
                refine bodyPost_ret (v := .tuple #[uval noU, .int .i64 2]) (by simp [results, Tryd.results30, go_sem, uval, noU, str]) rfl ⟨HC.out, ?_⟩
                first | exact (below_two _ _ _).drew.drew.drew | exact (below_two _ _ _).drew.drew
              · have x0 : decide ((97 : Int) ≤ (H[j].toNat : Int)) = false := by simp; omega
                have x1 : decide ((48 : Int) ≤ (H[j].toNat : Int)) = true := by simp; omega
                have x2 : decide ((H[j].toNat : Int) ≤ 57) = true := by simp; omega
                have HC := Lib.hid (HYES.out (by simp [hostB]; omega)); clear hc HYES HNO
                go_wp2
                go_round
                case rel => exact ⟨j + 1, by omega, by go_num, HC.out⟩
                case measure => simp [intOf]; omega
              · have x0 : decide ((97 : Int) ≤ (H[j].toNat : Int)) = false := by simp; omega
                have x1 : decide ((48 : Int) ≤ (H[j].toNat : Int)) = true := by simp; omega
                have x2 : decide ((H[j].toNat : Int) ≤ 57) = false := by simp; omega
                have x3 : ((H[j].toNat : Int) == 45) = false := by simp; omega
                have x4 : ((H[j].toNat : Int) == 46) = false := by simp; omega
                have x5 : ((H[j].toNat : Int) == 58) = false := by simp; omega
                have HC := Lib.hid (HNO.out (by simp [hostB]; omega)); clear hc HYES HNO
                go_wp2
                refine bodyPost_ret (v := .tuple #[uval noU, .int .i64 2]) (by simp [results, Tryd.results30, go_sem, uval, noU, str]) rfl ⟨HC.out, ?_⟩
                first | exact (below_two _ _ _).drew.drew.drew | exact (below_two _ _ _).drew.drew
              · have x0 : decide ((97 : Int) ≤ (H[j].toNat : Int)) = false := by simp; omega
                have x1 : decide ((48 : Int) ≤ (H[j].toNat : Int)) = true := by simp; omega
                have x2 : decide ((H[j].toNat : Int) ≤ 57) = false := by simp; omega
                have x3 : ((H[j].toNat : Int) == 45) = false := by simp; omega
                have x4 : ((H[j].toNat : Int) == 46) = false := by simp; omega
                have x5 : ((H[j].toNat : Int) == 58) = true := by simp; omega
                have HC := Lib.hid (HYES.out (by simp [hostB]; omega)); clear hc HYES HNO
                go_wp2
                go_round
                case rel => exact ⟨j + 1, by omega, by go_num, HC.out⟩
                case measure => simp [intOf]; omega
              · have x0 : decide ((97 : Int) ≤ (H[j].toNat : Int)) = false := by simp; omega
                have x1 : decide ((48 : Int) ≤ (H[j].toNat : Int)) = false := by simp; omega
                have x2 : ((H[j].toNat : Int) == 45) = false := by simp; omega
                have x3 : ((H[j].toNat : Int) == 46) = false := by simp; omega
                have x4 : ((H[j].toNat : Int) == 58) = false := by simp; omega
                have HC := Lib.hid (HNO.out (by simp [hostB]; omega)); clear hc HYES HNO
                go_wp2
                refine bodyPost_ret (v := .tuple #[uval noU, .int .i64 2]) (by simp [results, Tryd.results30, go_sem, uval, noU, str]) rfl ⟨HC.out, ?_⟩
                first | exact (below_two _ _ _).drew.drew.drew | exact (below_two _ _ _).drew.drew
              · have x0 : decide ((97 : Int) ≤ (H[j].toNat : Int)) = false := by simp; omega
                have x1 : decide ((48 : Int) ≤ (H[j].toNat : Int)) = false := by simp; omega
                have x2 : ((H[j].toNat : Int) == 45) = true := by simp; omega
                have HC := Lib.hid (HYES.out (by simp [hostB]; omega)); clear hc HYES HNO
                go_wp2
                go_round
                case rel => exact ⟨j + 1, by omega, by go_num, HC.out⟩
                case measure => simp [intOf]; omega
              · have x0 : decide ((97 : Int) ≤ (H[j].toNat : Int)) = false := by simp; omega
                have x1 : decide ((48 : Int) ≤ (H[j].toNat : Int)) = false := by simp; omega
                have x2 : ((H[j].toNat : Int) == 45) = false := by simp; omega
                have x3 : ((H[j].toNat : Int) == 46) = true := by simp; omega
                have HC := Lib.hid (HYES.out (by simp [hostB]; omega)); clear hc HYES HNO
                go_wp2
                go_round
                case rel => exact ⟨j + 1, by omega, by go_num, HC.out⟩
                case measure => simp [intOf]; omega
            · have hje : j = H.size := by omega
              subst hje
              by_cases h0 : H.data.toList = []
              · have hE := HRN.out (Or.inl h0)
                have HE := Lib.hid hE
                have h0' : H = ⟨#[]⟩ := by apply ByteArray.ext; apply Array.ext'; exact h0
                subst h0'
                clear HRN HRS hE HB
                go_wp2
                refine bodyPost_ret (v := .tuple #[uval noU, .int .i64 2]) (by simp [results, Tryd.results30, go_sem, uval, noU, str]) rfl ⟨HE.out, ?_⟩
                first | exact (below_two _ _ _).drew.drew.drew | exact (below_two _ _ _).drew.drew
              · have hE := HRS.out h0 (fun i hi => HB.out i hi hi)
                have HE := Lib.hid hE
                clear HRN HRS hE HB
                have h0' : H.toList.isEmpty = false := by rw [ByteArray.toList_eq]; simpa using h0
                go_wp2
                refine bodyPost_ret (v := .tuple #[.agg #[.string ⟨#[104, 116, 116, 112]⟩, .string H, .string P, .string ⟨#[]⟩], .int .i64 0]) (by simp [results, Tryd.results30, go_sem]) rfl ⟨?_, ?_⟩
                · rw [← HE.out, uval_eta0]; rfl
                · first | exact (below_two _ _ _).drew.drew.drew | exact (below_two _ _ _).drew.drew
      · by_cases hB : 8 < s.size ∧ s.data.toList.take 8 = httpsL ++ [58, 47, 47]
        · have hu := uri_b hok hB.2
          rw [show s.data.toList.drop 8 = (s.extract 8 s.size).data.toList by rw [ext_suf]] at hu
          have hx : ((s.extract 0 8).toList == [104, 116, 116, 112, 115, 58, 47, 47]) = true := by rw [ext_toList, hB.2]; rfl
          have hx7 : ((s.extract 0 7).toList == [104, 116, 116, 112, 58, 47, 47]) = false := by rw [ext_toList]; have := not_both hB.2; simpa [httpL] using this
          have h7 := hB.1
          have h77 : 7 < s.size := by omega
          have hRs : (s.extract 8 s.size).size ≤ 4096 := by simp [ByteArray.size_extract]; omega
          clear hA hB hok
          have HU := Lib.hid hu; clear hu
          go_wp2
          go_region
          generalize s.extract 8 s.size = R at *
          clear hx hx7
          have hat1 := at_any R 63 (by unfold maxLen; omega)
          have hle1 := atL_le 63 R.data.toList
          have hfr : frontL R.data.toList = R.data.toList.take (atL 63 R.data.toList) := rfl
          have hqr : queryL R.data.toList = R.data.toList.drop (atL 63 R.data.toList + 1) := rfl
          obtain ⟨k1, hk1⟩ : ∃ k, atL 63 R.data.toList = k := ⟨_, rfl⟩
          rw [hk1] at hat1 hle1 hfr hqr
          have hRl : R.data.toList.length = R.size := rfl
          rw [hRl] at hle1
          rw [← ext_pre_list R k1] at hfr
          rw [← ext_suf_list R (k1 + 1)] at hqr
          have HFR := Lib.hid hfr; have HQR := Lib.hid hqr; have HK1 := Lib.hid hk1; clear hfr hqr hk1 hRl
          go_wp2_with fail
          refine (hat1 _).mono ?_
          rintro e w' ⟨rfl, rfl⟩
          by_cases hlt1 : k1 < R.size
          · have hd1 : decide ((k1 : Int) < (R.size : Int)) = true := by simp; omega
            have hw1 : IntKind.i64.wrap ((k1 : Int) + 1) = (k1 : Int) + 1 := wraps_i64 _ (by omega) (by omega)
            go_wp2
            go_region
            have hFs : (R.extract 0 k1).size ≤ 4096 := by simp [ByteArray.size_extract]; omega
            generalize R.extract 0 k1 = F at *
            generalize R.extract (k1 + 1) R.size = Q at *
            clear hw1 hd1 hlt1 hle1 hat1
            have hat2 := at_any F 47 (by unfold maxLen; omega)
            have hle2 := atL_le 47 F.data.toList
            have hrs := @rest_some R.data.toList httpsL F.data.toList HFR.out
            have hrn := @rest_none R.data.toList httpsL F.data.toList HFR.out
            rw [← HU.out, HQR.out] at hrs
            rw [← HU.out] at hrn
            obtain ⟨k2, hk2⟩ : ∃ k, atL 47 F.data.toList = k := ⟨_, rfl⟩
            rw [hk2] at hat2 hle2 hrs hrn
            have hFl : F.data.toList.length = F.size := rfl
            rw [hFl] at hle2
            rw [← ext_pre_list F k2, ← ext_suf_list F k2] at hrs
            rw [← ext_pre_list F k2] at hrn
            have hHs : (F.extract 0 k2).size ≤ 4096 := by simp [ByteArray.size_extract]; omega
            have HRS := Lib.hid (fun h1 h2 => H3.out _ (hrs h1 h2)); have HRN := Lib.hid (fun h => H2.out (hrn h)); clear hk2 hFl hrs hrn HFR HQR HU HK1
            go_wp2_with fail
            refine (hat2 _).mono ?_
            rintro e w' ⟨rfl, rfl⟩
            go_wp2
            go_region
            generalize F.extract 0 k2 = H at *
            generalize F.extract k2 F.size = P at *
            go_wp2
            go_loop [9] (fun i => ∃ j : Nat, j ≤ H.size ∧ i = .int .i64 j ∧ ∀ i (hi : i < H.data.toList.length), i < j → hostB H.data.toList[i] = true) (fun i => H.size - (intOf i).toNat)
            case atStart => exact ⟨0, Nat.zero_le _, rfl, fun _ _ h => absurd h (Nat.not_lt_zero _)⟩
            case round =>
              obtain ⟨j, hj, rfl, hb⟩ := hrel
              have HB := Lib.hid hb; clear hb
              by_cases hjl : j < H.size
              · have hno : hostB H[j] = false → Ending.returned (.tuple #[uval noU, .int .i64 2]) = uriSays s.data.toList := fun h => HRN.out (Or.inr ⟨j, hjl, h⟩)
                have hyes : hostB H[j] = true → ∀ i (hi : i < H.data.toList.length), i < j + 1 → hostB H.data.toList[i] = true := fun h i hi hij => by
                  rcases Nat.lt_succ_iff_lt_or_eq.1 hij with h' | h'
                  · exact HB.out i hi h'
                  · subst h'; exact h
                have HNO := Lib.hid hno; have HYES := Lib.hid hyes; clear hno hyes
                have hcl : (97 ≤ H[j].toNat ∧ H[j].toNat ≤ 122) ∨ (122 < H[j].toNat) ∨ (48 ≤ H[j].toNat ∧ H[j].toNat ≤ 57) ∨ (57 < H[j].toNat ∧ H[j].toNat < 97 ∧ H[j].toNat ≠ 58) ∨ (H[j].toNat = 58) ∨ (H[j].toNat < 48 ∧ H[j].toNat ≠ 45 ∧ H[j].toNat ≠ 46) ∨ (H[j].toNat = 45) ∨ (H[j].toNat = 46) := by omega
                rcases hcl with hc | hc | hc | hc | hc | hc | hc | hc
                · have x0 : decide ((97 : Int) ≤ (H[j].toNat : Int)) = true := by simp; omega
                  have x1 : decide ((H[j].toNat : Int) ≤ 122) = true := by simp; omega
                  have HC := Lib.hid (HYES.out (by simp [hostB]; omega)); clear hc HYES HNO
                  go_wp2
                  go_round
                  case rel => exact ⟨j + 1, by omega, by go_num, HC.out⟩
                  case measure => simp [intOf]; omega
                · have x0 : decide ((97 : Int) ≤ (H[j].toNat : Int)) = true := by simp; omega
                  have x1 : decide ((H[j].toNat : Int) ≤ 122) = false := by simp; omega
                  have x2 : decide ((48 : Int) ≤ (H[j].toNat : Int)) = true := by simp; omega
                  have x3 : decide ((H[j].toNat : Int) ≤ 57) = false := by simp; omega
                  have x4 : ((H[j].toNat : Int) == 45) = false := by simp; omega
                  have x5 : ((H[j].toNat : Int) == 46) = false := by simp; omega
                  have x6 : ((H[j].toNat : Int) == 58) = false := by simp; omega
                  have HC := Lib.hid (HNO.out (by simp [hostB]; omega)); clear hc HYES HNO
                  go_wp2
                  refine bodyPost_ret (v := .tuple #[uval noU, .int .i64 2]) (by simp [results, Tryd.results30, go_sem, uval, noU, str]) rfl ⟨HC.out, ?_⟩
                  first | exact (below_two _ _ _).drew.drew.drew | exact (below_two _ _ _).drew.drew
                · have x0 : decide ((97 : Int) ≤ (H[j].toNat : Int)) = false := by simp; omega
                  have x1 : decide ((48 : Int) ≤ (H[j].toNat : Int)) = true := by simp; omega
                  have x2 : decide ((H[j].toNat : Int) ≤ 57) = true := by simp; omega
                  have HC := Lib.hid (HYES.out (by simp [hostB]; omega)); clear hc HYES HNO
                  go_wp2
                  go_round
                  case rel => exact ⟨j + 1, by omega, by go_num, HC.out⟩
                  case measure => simp [intOf]; omega
                · have x0 : decide ((97 : Int) ≤ (H[j].toNat : Int)) = false := by simp; omega
                  have x1 : decide ((48 : Int) ≤ (H[j].toNat : Int)) = true := by simp; omega
                  have x2 : decide ((H[j].toNat : Int) ≤ 57) = false := by simp; omega
                  have x3 : ((H[j].toNat : Int) == 45) = false := by simp; omega
                  have x4 : ((H[j].toNat : Int) == 46) = false := by simp; omega
                  have x5 : ((H[j].toNat : Int) == 58) = false := by simp; omega
                  have HC := Lib.hid (HNO.out (by simp [hostB]; omega)); clear hc HYES HNO
                  go_wp2
                  refine bodyPost_ret (v := .tuple #[uval noU, .int .i64 2]) (by simp [results, Tryd.results30, go_sem, uval, noU, str]) rfl ⟨HC.out, ?_⟩
                  first | exact (below_two _ _ _).drew.drew.drew | exact (below_two _ _ _).drew.drew
                · have x0 : decide ((97 : Int) ≤ (H[j].toNat : Int)) = false := by simp; omega
                  have x1 : decide ((48 : Int) ≤ (H[j].toNat : Int)) = true := by simp; omega
                  have x2 : decide ((H[j].toNat : Int) ≤ 57) = false := by simp; omega
                  have x3 : ((H[j].toNat : Int) == 45) = false := by simp; omega
                  have x4 : ((H[j].toNat : Int) == 46) = false := by simp; omega
                  have x5 : ((H[j].toNat : Int) == 58) = true := by simp; omega
                  have HC := Lib.hid (HYES.out (by simp [hostB]; omega)); clear hc HYES HNO
                  go_wp2
                  go_round
                  case rel => exact ⟨j + 1, by omega, by go_num, HC.out⟩
                  case measure => simp [intOf]; omega
                · have x0 : decide ((97 : Int) ≤ (H[j].toNat : Int)) = false := by simp; omega
                  have x1 : decide ((48 : Int) ≤ (H[j].toNat : Int)) = false := by simp; omega
                  have x2 : ((H[j].toNat : Int) == 45) = false := by simp; omega
                  have x3 : ((H[j].toNat : Int) == 46) = false := by simp; omega
                  have x4 : ((H[j].toNat : Int) == 58) = false := by simp; omega
                  have HC := Lib.hid (HNO.out (by simp [hostB]; omega)); clear hc HYES HNO
                  go_wp2
                  refine bodyPost_ret (v := .tuple #[uval noU, .int .i64 2]) (by simp [results, Tryd.results30, go_sem, uval, noU, str]) rfl ⟨HC.out, ?_⟩
                  first | exact (below_two _ _ _).drew.drew.drew | exact (below_two _ _ _).drew.drew
                · have x0 : decide ((97 : Int) ≤ (H[j].toNat : Int)) = false := by simp; omega
                  have x1 : decide ((48 : Int) ≤ (H[j].toNat : Int)) = false := by simp; omega
                  have x2 : ((H[j].toNat : Int) == 45) = true := by simp; omega
                  have HC := Lib.hid (HYES.out (by simp [hostB]; omega)); clear hc HYES HNO
                  go_wp2
                  go_round
                  case rel => exact ⟨j + 1, by omega, by go_num, HC.out⟩
                  case measure => simp [intOf]; omega
                · have x0 : decide ((97 : Int) ≤ (H[j].toNat : Int)) = false := by simp; omega
                  have x1 : decide ((48 : Int) ≤ (H[j].toNat : Int)) = false := by simp; omega
                  have x2 : ((H[j].toNat : Int) == 45) = false := by simp; omega
                  have x3 : ((H[j].toNat : Int) == 46) = true := by simp; omega
                  have HC := Lib.hid (HYES.out (by simp [hostB]; omega)); clear hc HYES HNO
                  go_wp2
                  go_round
                  case rel => exact ⟨j + 1, by omega, by go_num, HC.out⟩
                  case measure => simp [intOf]; omega
              · have hje : j = H.size := by omega
                subst hje
                by_cases h0 : H.data.toList = []
                · have hE := HRN.out (Or.inl h0)
                  have HE := Lib.hid hE
                  have h0' : H = ⟨#[]⟩ := by apply ByteArray.ext; apply Array.ext'; exact h0
                  subst h0'
                  clear HRN HRS hE HB
                  go_wp2
                  refine bodyPost_ret (v := .tuple #[uval noU, .int .i64 2]) (by simp [results, Tryd.results30, go_sem, uval, noU, str]) rfl ⟨HE.out, ?_⟩
                  first | exact (below_two _ _ _).drew.drew.drew | exact (below_two _ _ _).drew.drew
                · have hE := HRS.out h0 (fun i hi => HB.out i hi hi)
                  have HE := Lib.hid hE
                  clear HRN HRS hE HB
                  have h0' : H.toList.isEmpty = false := by rw [ByteArray.toList_eq]; simpa using h0
                  go_wp2
                  refine bodyPost_ret (v := .tuple #[.agg #[.string ⟨#[104, 116, 116, 112, 115]⟩, .string H, .string P, .string Q], .int .i64 0]) (by simp [results, Tryd.results30, go_sem]) rfl ⟨?_, ?_⟩
                  · rw [← HE.out, uval_eta]; rfl
                  · first | exact (below_two _ _ _).drew.drew.drew | exact (below_two _ _ _).drew.drew
          · have hd1 : decide ((k1 : Int) < (R.size : Int)) = false := by simp; omega
            have hk1 : k1 = R.size := by omega
            subst hk1
            have hRR : R.extract 0 R.size = R := by apply ByteArray.ext; simp
            have hRQ : (R.extract (R.size + 1) R.size).data.toList = (ByteArray.mk #[]).data.toList := by rw [ext_suf_list]; exact List.drop_eq_nil_of_le (Nat.le_succ _)
            rw [hRR] at HFR
            rw [hRQ] at HQR
            clear hRR hRQ
            have hat2 := at_any R 47 (by unfold maxLen; omega)
            have hle2 := atL_le 47 R.data.toList
            have hrs := @rest_some R.data.toList httpsL R.data.toList HFR.out
            have hrn := @rest_none R.data.toList httpsL R.data.toList HFR.out
            rw [← HU.out, HQR.out] at hrs
            rw [← HU.out] at hrn
            obtain ⟨k2, hk2⟩ : ∃ k, atL 47 R.data.toList = k := ⟨_, rfl⟩
            rw [hk2] at hat2 hle2 hrs hrn
            have hFl : R.data.toList.length = R.size := rfl
            rw [hFl] at hle2
            rw [← ext_pre_list R k2, ← ext_suf_list R k2] at hrs
            rw [← ext_pre_list R k2] at hrn
            have hHs : (R.extract 0 k2).size ≤ 4096 := by simp [ByteArray.size_extract]; omega
            have HRS := Lib.hid (fun h1 h2 => H3.out _ (hrs h1 h2)); have HRN := Lib.hid (fun h => H2.out (hrn h)); clear hk2 hFl hrs hrn HFR HQR HU HK1
            go_wp2_with fail
            refine (hat2 _).mono ?_
            rintro e w' ⟨rfl, rfl⟩
            go_wp2
            go_region
            generalize R.extract 0 k2 = H at *
            generalize R.extract k2 R.size = P at *
            go_wp2
            go_loop [9] (fun i => ∃ j : Nat, j ≤ H.size ∧ i = .int .i64 j ∧ ∀ i (hi : i < H.data.toList.length), i < j → hostB H.data.toList[i] = true) (fun i => H.size - (intOf i).toNat)
            case atStart => exact ⟨0, Nat.zero_le _, rfl, fun _ _ h => absurd h (Nat.not_lt_zero _)⟩
            case round =>
              obtain ⟨j, hj, rfl, hb⟩ := hrel
              have HB := Lib.hid hb; clear hb
              by_cases hjl : j < H.size
              · have hno : hostB H[j] = false → Ending.returned (.tuple #[uval noU, .int .i64 2]) = uriSays s.data.toList := fun h => HRN.out (Or.inr ⟨j, hjl, h⟩)
                have hyes : hostB H[j] = true → ∀ i (hi : i < H.data.toList.length), i < j + 1 → hostB H.data.toList[i] = true := fun h i hi hij => by
                  rcases Nat.lt_succ_iff_lt_or_eq.1 hij with h' | h'
                  · exact HB.out i hi h'
                  · subst h'; exact h
                have HNO := Lib.hid hno; have HYES := Lib.hid hyes; clear hno hyes
                have hcl : (97 ≤ H[j].toNat ∧ H[j].toNat ≤ 122) ∨ (122 < H[j].toNat) ∨ (48 ≤ H[j].toNat ∧ H[j].toNat ≤ 57) ∨ (57 < H[j].toNat ∧ H[j].toNat < 97 ∧ H[j].toNat ≠ 58) ∨ (H[j].toNat = 58) ∨ (H[j].toNat < 48 ∧ H[j].toNat ≠ 45 ∧ H[j].toNat ≠ 46) ∨ (H[j].toNat = 45) ∨ (H[j].toNat = 46) := by omega
                rcases hcl with hc | hc | hc | hc | hc | hc | hc | hc
                · have x0 : decide ((97 : Int) ≤ (H[j].toNat : Int)) = true := by simp; omega
                  have x1 : decide ((H[j].toNat : Int) ≤ 122) = true := by simp; omega
                  have HC := Lib.hid (HYES.out (by simp [hostB]; omega)); clear hc HYES HNO
                  go_wp2
                  go_round
                  case rel => exact ⟨j + 1, by omega, by go_num, HC.out⟩
                  case measure => simp [intOf]; omega
                · have x0 : decide ((97 : Int) ≤ (H[j].toNat : Int)) = true := by simp; omega
                  have x1 : decide ((H[j].toNat : Int) ≤ 122) = false := by simp; omega
                  have x2 : decide ((48 : Int) ≤ (H[j].toNat : Int)) = true := by simp; omega
                  have x3 : decide ((H[j].toNat : Int) ≤ 57) = false := by simp; omega
                  have x4 : ((H[j].toNat : Int) == 45) = false := by simp; omega
                  have x5 : ((H[j].toNat : Int) == 46) = false := by simp; omega
                  have x6 : ((H[j].toNat : Int) == 58) = false := by simp; omega
                  have HC := Lib.hid (HNO.out (by simp [hostB]; omega)); clear hc HYES HNO
                  go_wp2
                  refine bodyPost_ret (v := .tuple #[uval noU, .int .i64 2]) (by simp [results, Tryd.results30, go_sem, uval, noU, str]) rfl ⟨HC.out, ?_⟩
                  first | exact (below_two _ _ _).drew.drew.drew | exact (below_two _ _ _).drew.drew
                · have x0 : decide ((97 : Int) ≤ (H[j].toNat : Int)) = false := by simp; omega
                  have x1 : decide ((48 : Int) ≤ (H[j].toNat : Int)) = true := by simp; omega
                  have x2 : decide ((H[j].toNat : Int) ≤ 57) = true := by simp; omega
                  have HC := Lib.hid (HYES.out (by simp [hostB]; omega)); clear hc HYES HNO
                  go_wp2
                  go_round
                  case rel => exact ⟨j + 1, by omega, by go_num, HC.out⟩
                  case measure => simp [intOf]; omega
                · have x0 : decide ((97 : Int) ≤ (H[j].toNat : Int)) = false := by simp; omega
                  have x1 : decide ((48 : Int) ≤ (H[j].toNat : Int)) = true := by simp; omega
                  have x2 : decide ((H[j].toNat : Int) ≤ 57) = false := by simp; omega
                  have x3 : ((H[j].toNat : Int) == 45) = false := by simp; omega
                  have x4 : ((H[j].toNat : Int) == 46) = false := by simp; omega
                  have x5 : ((H[j].toNat : Int) == 58) = false := by simp; omega
                  have HC := Lib.hid (HNO.out (by simp [hostB]; omega)); clear hc HYES HNO
                  go_wp2
                  refine bodyPost_ret (v := .tuple #[uval noU, .int .i64 2]) (by simp [results, Tryd.results30, go_sem, uval, noU, str]) rfl ⟨HC.out, ?_⟩
                  first | exact (below_two _ _ _).drew.drew.drew | exact (below_two _ _ _).drew.drew
                · have x0 : decide ((97 : Int) ≤ (H[j].toNat : Int)) = false := by simp; omega
                  have x1 : decide ((48 : Int) ≤ (H[j].toNat : Int)) = true := by simp; omega
                  have x2 : decide ((H[j].toNat : Int) ≤ 57) = false := by simp; omega
                  have x3 : ((H[j].toNat : Int) == 45) = false := by simp; omega
                  have x4 : ((H[j].toNat : Int) == 46) = false := by simp; omega
                  have x5 : ((H[j].toNat : Int) == 58) = true := by simp; omega
                  have HC := Lib.hid (HYES.out (by simp [hostB]; omega)); clear hc HYES HNO
                  go_wp2
                  go_round
                  case rel => exact ⟨j + 1, by omega, by go_num, HC.out⟩
                  case measure => simp [intOf]; omega
                · have x0 : decide ((97 : Int) ≤ (H[j].toNat : Int)) = false := by simp; omega
                  have x1 : decide ((48 : Int) ≤ (H[j].toNat : Int)) = false := by simp; omega
                  have x2 : ((H[j].toNat : Int) == 45) = false := by simp; omega
                  have x3 : ((H[j].toNat : Int) == 46) = false := by simp; omega
                  have x4 : ((H[j].toNat : Int) == 58) = false := by simp; omega
                  have HC := Lib.hid (HNO.out (by simp [hostB]; omega)); clear hc HYES HNO
                  go_wp2
                  refine bodyPost_ret (v := .tuple #[uval noU, .int .i64 2]) (by simp [results, Tryd.results30, go_sem, uval, noU, str]) rfl ⟨HC.out, ?_⟩
                  first | exact (below_two _ _ _).drew.drew.drew | exact (below_two _ _ _).drew.drew
                · have x0 : decide ((97 : Int) ≤ (H[j].toNat : Int)) = false := by simp; omega
                  have x1 : decide ((48 : Int) ≤ (H[j].toNat : Int)) = false := by simp; omega
                  have x2 : ((H[j].toNat : Int) == 45) = true := by simp; omega
                  have HC := Lib.hid (HYES.out (by simp [hostB]; omega)); clear hc HYES HNO
                  go_wp2
                  go_round
                  case rel => exact ⟨j + 1, by omega, by go_num, HC.out⟩
                  case measure => simp [intOf]; omega
                · have x0 : decide ((97 : Int) ≤ (H[j].toNat : Int)) = false := by simp; omega
                  have x1 : decide ((48 : Int) ≤ (H[j].toNat : Int)) = false := by simp; omega
                  have x2 : ((H[j].toNat : Int) == 45) = false := by simp; omega
                  have x3 : ((H[j].toNat : Int) == 46) = true := by simp; omega
                  have HC := Lib.hid (HYES.out (by simp [hostB]; omega)); clear hc HYES HNO
                  go_wp2
                  go_round
                  case rel => exact ⟨j + 1, by omega, by go_num, HC.out⟩
                  case measure => simp [intOf]; omega
              · have hje : j = H.size := by omega
                subst hje
                by_cases h0 : H.data.toList = []
                · have hE := HRN.out (Or.inl h0)
                  have HE := Lib.hid hE
                  have h0' : H = ⟨#[]⟩ := by apply ByteArray.ext; apply Array.ext'; exact h0
                  subst h0'
                  clear HRN HRS hE HB
                  go_wp2
                  refine bodyPost_ret (v := .tuple #[uval noU, .int .i64 2]) (by simp [results, Tryd.results30, go_sem, uval, noU, str]) rfl ⟨HE.out, ?_⟩
                  first | exact (below_two _ _ _).drew.drew.drew | exact (below_two _ _ _).drew.drew
                · have hE := HRS.out h0 (fun i hi => HB.out i hi hi)
                  have HE := Lib.hid hE
                  clear HRN HRS hE HB
                  have h0' : H.toList.isEmpty = false := by rw [ByteArray.toList_eq]; simpa using h0
                  go_wp2
                  refine bodyPost_ret (v := .tuple #[.agg #[.string ⟨#[104, 116, 116, 112, 115]⟩, .string H, .string P, .string ⟨#[]⟩], .int .i64 0]) (by simp [results, Tryd.results30, go_sem]) rfl ⟨?_, ?_⟩
                  · rw [← HE.out, uval_eta0]; rfl
                  · first | exact (below_two _ _ _).drew.drew.drew | exact (below_two _ _ _).drew.drew
        · have hE := H2.out (uri_no hA hB)
          have HE := Lib.hid hE; clear hE
          have hx7 : 7 < s.size → ((s.extract 0 7).toList == [104, 116, 116, 112, 58, 47, 47]) = false := fun h => by
            rw [ext_toList]; have := fun e => hA ⟨h, e⟩; simpa [httpL] using this
          have hx8 : 8 < s.size → ((s.extract 0 8).toList == [104, 116, 116, 112, 115, 58, 47, 47]) = false := fun h => by
            rw [ext_toList]; have := fun e => hB ⟨h, e⟩; simpa [httpsL] using this
          clear hA hB
          by_cases h7 : 7 < s.size
          · have hx7 := hx7 h7
            by_cases h8 : 8 < s.size
            · have hx8 := hx8 h8
              go_wp2
              refine bodyPost_ret (v := .tuple #[uval noU, .int .i64 2]) (by simp [results, Tryd.results30, go_sem, uval, noU, str]) rfl ⟨HE.out, ?_⟩
              exact below_two _ _ _
            · clear hx8
              go_wp2
              refine bodyPost_ret (v := .tuple #[uval noU, .int .i64 2]) (by simp [results, Tryd.results30, go_sem, uval, noU, str]) rfl ⟨HE.out, ?_⟩
              exact below_two _ _ _
          · have h8 : ¬ 8 < s.size := by omega
            clear hx7 hx8
            go_wp2
            refine bodyPost_ret (v := .tuple #[uval noU, .int .i64 2]) (by simp [results, Tryd.results30, go_sem, uval, noU, str]) rfl ⟨HE.out, ?_⟩
            exact below_two _ _ _
end Go.Proofs.YtiofgepfcacgjaaDoor
