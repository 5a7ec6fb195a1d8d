/- uri's small functions, by their text. -/
import Derived.Test.YtdogcnlcefklkaaLeaf
import Derived.Test.YtdogcnlcefklkaaUri
namespace Go.Proofs.Ytdogcnlcefklkaa
open Go.RowKit

theorem hostByte_any (c : UInt8) (w : World) :
    Calls Try.prog 24 #[.int .u8 c.toNat] w fun e w' => e = .returned (.bool (hostB c)) ∧ w = w' := by
  go_enter Try.func24, Try.ntmps24
  go_wp2
  all_goals
    go_ret
    exact ⟨ret_bool (by rw [Bool.eq_iff_iff]; simp [hostB]; omega), rfl⟩
set_option maxRecDepth 100000 in
theorem hostEnd_any (s : ByteArray) (hs : s.size ≤ maxLen) (w : World) :
    Calls Try.prog 17 #[.string s] w fun e w' => e = .returned (.int .i64 (endL s.data.toList)) ∧ w = w' := by
  unfold maxLen at hs
  have hsz : s.data.toList.length = s.size := rfl
  go_enter Try.func17, Try.ntmps17
  go_wp2
  go_loop [6] (fun i => ∃ k : Nat, k ≤ s.size ∧ i = .int .i64 k ∧ ∀ j (hj : j < s.data.toList.length), j < k → hostB s.data.toList[j] = true) (fun i => s.size - (intOf i).toNat)
  case atStart => exact ⟨0, Nat.zero_le _, rfl, fun _ _ h => absurd h (Nat.not_lt_zero _)⟩
  case round =>
    obtain ⟨k, hk, rfl, hb⟩ := hrel
    have HB := Lib.hid hb; clear hb
    by_cases hlt : k < s.size
    · have hcall := hostByte_any s[k]
      cases he : hostB s[k] with
      | true =>
        rw [he] at hcall
        have HE := Lib.hid he; clear he
        go_wp2_with fail
        refine (hcall _).mono ?_
        rintro e w' ⟨rfl, rfl⟩
        go_wp2
        go_round
        case rel => exact ⟨k + 1, by omega, by go_num, fun j hj hjk => by
          rcases Nat.lt_succ_iff_lt_or_eq.1 hjk with h | h
          · exact HB.out j hj h
          · subst h; exact HE.out⟩
        case measure => simp [intOf]; omega
      | false =>
        rw [he] at hcall
        have HE := Lib.hid he; clear he
        go_wp2_with fail
        refine (hcall _).mono ?_
        rintro e w' ⟨rfl, rfl⟩
        go_wp2
        go_ret
        exact ⟨ret_int (by rw [endL_is s.data.toList k hk HB.out (fun _ => HE.out)]), rfl⟩
    · have hke : k = s.size := by omega
      subst hke
      go_wp2
      go_ret
      exact ⟨ret_int (by rw [endL_is s.data.toList s.size hk HB.out (fun h => absurd h (Nat.lt_irrefl _))]), rfl⟩
theorem all_false {l : List UInt8} {k : Nat} (hk : k < l.length) (h : charB l[k] = false) : okL l = false := by
  unfold okL; rw [List.all_eq_false]; exact ⟨l[k], List.getElem_mem hk, by simp [h]⟩
theorem all_true {l : List UInt8} (h : ∀ j (hj : j < l.length), charB l[j] = true) : okL l = true := by
  unfold okL; rw [List.all_eq_true]; intro x hx; obtain ⟨j, hj, rfl⟩ := List.getElem_of_mem hx; exact h j hj
theorem oddCode_any (c : UInt8) (w : World) :
    Calls Try.prog 22 #[.string ⟨#[35, 34, 60, 62, 92, 94, 96, 123, 124, 125]⟩, .int .u8 c.toNat] w fun e w' => e = .returned (.int .i64 (Lib.indexByte codeOdd c)) ∧ w = w' := by
  have h := indexByte_any ⟨#[35, 34, 60, 62, 92, 94, 96, 123, 124, 125]⟩ c.toNat w
  have e : (c.toNat : Int).toNat.toUInt8 = c := of_all c
  rw [e] at h
  exact h
set_option maxRecDepth 100000 in
theorem allowed_any (s : ByteArray) (hs : s.size ≤ maxLen) (w : World) :
    Calls Try.prog 15 #[.string s] w fun e w' => e = .returned (.bool (okL s.data.toList)) ∧ w = w' := by
  unfold maxLen at hs
  have hsz : s.data.toList.length = s.size := rfl
  go_enter Try.func15, Try.ntmps15
  go_wp2
  go_loop [7] (fun i => ∃ k : Nat, k ≤ s.size ∧ i = .int .i64 k ∧ ∀ j (hj : j < s.data.toList.length), j < k → charB s.data.toList[j] = true) (fun i => s.size - (intOf i).toNat)
  case atStart => exact ⟨0, Nat.zero_le _, rfl, fun _ _ h => absurd h (Nat.not_lt_zero _)⟩
  case round =>
    obtain ⟨k, hk, rfl, hb⟩ := hrel
    have HB := Lib.hid hb; clear hb
    by_cases hlt : k < s.size
    · have hno : charB s[k] = false → okL s.data.toList = false := fun h => all_false (l := s.data.toList) hlt h
      have hyes : charB s[k] = true → ∀ j (hj : j < s.data.toList.length), j < k + 1 → charB s.data.toList[j] = true := fun h j hj hjk => by
        rcases Nat.lt_succ_iff_lt_or_eq.1 hjk with h' | h'
        · exact HB.out j hj h'
        · subst h'; exact h
      have HNO := Lib.hid hno; have HYES := Lib.hid hyes; clear hno hyes
      by_cases h33 : s[k].toNat < 33
      · have hd : decide ((s[k].toNat : Int) < 33) = true := by simp; omega
        have hc := HNO.out (by unfold charB; rw [show decide (33 ≤ s[k].toNat) = false by simp; omega]; rfl)
        have HC := Lib.hid hc; clear hc
        go_wp2
        go_ret
        exact ⟨ret_bool HC.out.symm, rfl⟩
      · have hd : decide ((s[k].toNat : Int) < 33) = false := by simp; omega
        by_cases h126 : 126 < s[k].toNat
        · have hd2 : decide ((126 : Int) < (s[k].toNat : Int)) = true := by simp; omega
          have hc := HNO.out (by unfold charB; rw [show decide (s[k].toNat ≤ 126) = false by simp; omega]; simp)
          have HC := Lib.hid hc; clear hc
          go_wp2
          go_ret
          exact ⟨ret_bool HC.out.symm, rfl⟩
        · have hd2 : decide ((126 : Int) < (s[k].toNat : Int)) = false := by simp; omega
          have hcall := oddCode_any s[k]
          have hodd := odd_code s[k]
          generalize Lib.indexByte codeOdd s[k] = ix at *
          cases he : oddB s[k] with
          | true =>
            rw [he] at hodd
            have hc := HNO.out (by unfold charB; rw [he]; simp)
            have HC := Lib.hid hc; clear hc he
            go_wp2_with fail
            refine (hcall _).mono ?_
            rintro e w' ⟨rfl, rfl⟩
            go_wp2
            go_ret
            exact ⟨ret_bool HC.out.symm, rfl⟩
          | false =>
            rw [he] at hodd
            have hc := HYES.out (by unfold charB; rw [he]; simp; omega)
            have HC := Lib.hid hc; clear hc he
            go_wp2_with fail
            refine (hcall _).mono ?_
            rintro e w' ⟨rfl, rfl⟩
            go_wp2
            go_round
            case rel => exact ⟨k + 1, by omega, by go_num, HC.out⟩
            case measure => simp [intOf]; omega
    · have hke : k = s.size := by omega
      subst hke
      go_wp2
      go_ret
      exact ⟨ret_bool (all_true (fun j hj => HB.out j hj hj)).symm, rfl⟩
end Go.Proofs.Ytdogcnlcefklkaa
