/- TextReads' and TextEqual's walks. -/
import Derived.Test.YtahgcnoaflamfaaLawBack
namespace Go.Proofs.Ytahgcnoaflamfaa
open Go.RowKit

theorem UnSays.yes {l o : List UInt8} {e : Ending} (hd : UnSays l e) (h : dec l = some o) : e = .returned (.tuple #[.string ⟨o.toArray⟩, .bool true]) := by
  obtain ⟨h1, h2⟩ := dec_some h
  rcases hd with ⟨o', h', he⟩ | ⟨h', _⟩
  · rw [h2] at h'; injection h' with h'; subst h'; rw [he, decide_eq_true h1]
  · rw [h2] at h'; cases h'
/-- where it is none: whatever text, and false -/
def UnNone (e : Ending) : Prop := ∃ x, e = .returned (.tuple #[.string x, .bool false])
theorem UnSays.no {l : List UInt8} {e : Ending} (hd : UnSays l e) (h : dec l = none) : UnNone e := by
  rcases hd with ⟨o', h', he⟩ | ⟨h', he⟩
  · exact ⟨⟨o'.toArray⟩, by rw [he, decide_eq_false (dec_none h h')]⟩
  · exact ⟨_, he⟩
theorem refUn_yes (s : ByteArray) (o : List UInt8) (h : dec s.data.toList = some o) (hs : s.size ≤ 46912496117759) (w : World) :
    Calls Try.prog 14 #[.string s] w fun e w' => e = .returned (.tuple #[.string ⟨o.toArray⟩, .bool true]) ∧ Below w.heap.size w w' :=
  (refUn_says s hs w).mono fun _ _ ⟨hd, hw⟩ => ⟨hd.yes h, hw⟩
theorem refUn_no (s : ByteArray) (h : dec s.data.toList = none) (hs : s.size ≤ 46912496117759) (w : World) :
    Calls Try.prog 14 #[.string s] w fun e w' => UnNone e ∧ Below w.heap.size w w' :=
  (refUn_says s hs w).mono fun _ _ ⟨hd, hw⟩ => ⟨hd.no h, hw⟩

set_option maxRecDepth 100000 in
theorem textReads_law (s : ByteArray) (hs : s.size ≤ maxLen) (w : World) :
    Calls Try.prog 4 #[.string s] w fun e w' => e = .returned (.bool true) ∧ Below w.heap.size w w' := by
  unfold maxLen at hs
  by_cases h : s.size ≤ 1000
  · cases hd : dec s.data.toList with
    | none =>
      have HD := Lib.hid hd; clear hd
      go_enter Try.func4, Try.ntmps4
      go_wp2_with fail
      refine (decode_no s HD.out (by omega) _).mono ?_
      rintro e w1 ⟨rfl, hb1⟩
      go_wp2_with fail
      refine (refUn_no s HD.out (by omega) _).mono ?_
      rintro e w2 ⟨⟨x, rfl⟩, hb2⟩
      go_wp2_with fail
      refine (answers_any _).mono ?_
      rintro e w3 ⟨rfl, hb3⟩
      go_wp2
      go_ret
      exact ⟨rfl, (hb1.chain hb2).chain hb3⟩
    | some o =>
      have HE := Lib.hid (dec_some hd).1
      have HD := Lib.hid hd; clear hd
      have hol : o.length ≤ 1000 := by
        have h1 := enc_len o
        rw [HE.out] at h1
        have h2 : s.data.toList.length = s.size := rfl
        omega
      go_enter Try.func4, Try.ntmps4
      go_wp2_with fail
      refine (decode_yes s o HD.out (by omega) _).mono ?_
      rintro e w1 ⟨rfl, hb1⟩
      go_wp2_with fail
      refine (refUn_yes s o HD.out (by omega) _).mono ?_
      rintro e w2 ⟨rfl, hb2⟩
      go_wp2_with fail
      refine (answers_any _).mono ?_
      rintro e w3 ⟨rfl, hb3⟩
      go_wp2_with fail
      refine (encode_any ⟨o.toArray⟩ (by show o.length ≤ _; omega) _).mono ?_
      rintro e w4 ⟨rfl, hb4⟩
      go_wp2
      go_ret
      exact ⟨ret_bool (by have := HE.out; rw [Lib.toList_data]; simp [this]), ((hb1.chain hb2).chain hb3).chain hb4⟩
  · have h' : 1000 < s.size := by omega
    clear h
    go_enter Try.func4, Try.ntmps4
    go_wp2_with fail
    refine (answers_any _).mono ?_
    rintro e w3 ⟨rfl, hb3⟩
    go_wp2
    go_ret
    exact ⟨rfl, hb3⟩

theorem eqB_self (a : ByteArray) : eqB a a = true := by simp [eqB]
set_option maxRecDepth 100000 in
theorem textEqual_law (a b : ByteArray) (ha : a.size ≤ maxLen) (hb : b.size ≤ maxLen) (w : World) :
    Calls Try.prog 5 #[.string a, .string b] w fun e w' => e = .returned (.bool true) ∧ Below w.heap.size w w' := by
  have e1 : eqB a b = (a.toList == b.toList) := by rw [Lib.toList_data, Lib.toList_data, Bool.eq_iff_iff]; simp [eqB]
  have e2 := eqB_self a
  go_enter Try.func5, Try.ntmps5
  go_wp2_with fail
  refine (answers_any _).mono ?_
  rintro e w3 ⟨rfl, hb3⟩
  go_wp2_with fail
  refine (equal_any a b ha hb _).mono ?_
  rintro e w' ⟨rfl, rfl⟩
  rw [e1]
  go_wp2_with fail
  refine (equal_any a a ha ha _).mono ?_
  rintro e w' ⟨rfl, rfl⟩
  rw [e2]
  go_wp2
  go_ret
  exact ⟨rfl, hb3⟩
end Go.Proofs.Ytahgcnoaflamfaa
