/- Where a byte stands; strings.Cut at one byte; the reference's at and Split. -/
import Derived.Test.YtefnkkjmcfpiaaaDoorLeaf
import Derived.Test.YtefnkkjmcfpiaaaDoorParts
namespace Go.Proofs.YtefnkkjmcfpiaaaDoor
open Go.RowKit

theorem ext_pre (s : ByteArray) (k : Nat) : s.extract 0 k = ⟨(s.data.toList.take k).toArray⟩ := by
  apply ByteArray.ext; apply Array.ext'
  simp [ByteArray.data_extract, List.extract]
theorem ext_suf (s : ByteArray) (k : Nat) : s.extract k s.size = ⟨(s.data.toList.drop k).toArray⟩ := by
  apply ByteArray.ext; apply Array.ext'
  have : s.size = s.data.size := rfl
  rw [ByteArray.data_extract, Array.toList_extract, this]
  simp [List.extract, List.take_of_length_le]
theorem str_eta (s : ByteArray) : s = ⟨s.data.toList.toArray⟩ := by cases s; simp
theorem index1_same (s : ByteArray) (h : s.size = 1) : Lib.indexByte s.data.toList s[0] = 0 := by
  have hl : s.data.toList.length = 1 := h
  obtain ⟨a, ha⟩ := List.length_eq_one_iff.1 hl
  have h0 : s[0] = a := by
    have : s[0] = s.data.toList[0] := rfl
    rw [this]; simp [ha]
  rw [h0, ha]; simp [Lib.indexByte]
set_option maxRecDepth 100000 in
theorem index1_any (s x : ByteArray) (hx : x.size = 1) (w : World) :
    Calls Tryd.prog 51 #[.string s, .string x] w fun e w' => e = .returned (.int .i64 (Lib.indexByte s.data.toList x[0])) ∧ w = w' := by
  by_cases hsx : x = s
  · subst hsx
    have h1 := index1_same x hx
    have H1 := Lib.hid h1; clear h1
    go_enter Tryd.func51, Tryd.ntmps51
    go_wp2_with fail
    go_ret
    exact ⟨ret_int H1.out.symm, rfl⟩
  · have hb : (x.toList == s.toList) = false := by
      have : x.toList ≠ s.toList := fun e => hsx (by rw [ByteArray.toList_eq, ByteArray.toList_eq] at e; exact ByteArray.ext (Array.ext' e))
      simpa using this
    have HX := Lib.hid hsx; clear hsx
    go_enter Tryd.func51, Tryd.ntmps51
    go_wp2_with fail
    refine (stringslite_any s _ _).mono ?_
    rintro e w' ⟨rfl, rfl⟩
    go_wp2
    go_ret
    exact ⟨ret_int (by simp), rfl⟩
theorem ret_cut {a b c d : ByteArray} {x y : Bool} (h : a = c) (h' : b = d) (hx : x = y) : Ending.returned (.tuple #[.string a, .string b, .bool x]) = .returned (.tuple #[.string c, .string d, .bool y]) := by rw [h, h', hx]
/-- what strings.Cut answers at one byte -/
def cutSays (c : UInt8) (l : List UInt8) : Ending :=
  .returned (.tuple #[.string ⟨(l.take (atL c l)).toArray⟩, .string ⟨(l.drop (atL c l + 1)).toArray⟩, .bool (decide (atL c l < l.length))])
theorem index1_c (s : ByteArray) (c : UInt8) (w : World) :
    Calls Tryd.prog 51 #[.string s, .string ⟨#[c]⟩] w fun e w' => e = .returned (.int .i64 (Lib.indexByte s.data.toList c)) ∧ w = w' := index1_any s ⟨#[c]⟩ rfl w
set_option maxRecDepth 100000 in
theorem slcut1_any (s : ByteArray) (c : UInt8) (hs : s.size ≤ maxLen) (w : World) :
    Calls Tryd.prog 45 #[.string s, .string ⟨#[c]⟩] w fun e w' => e = cutSays c s.data.toList ∧ ∃ n, w' = w.drewN n := by
  unfold maxLen at hs
  have hi := atL_index c s.data.toList
  have hle := atL_le c s.data.toList
  have hsz : s.data.toList.length = s.size := rfl
  rw [hsz] at hi hle
  obtain ⟨k, hk⟩ : ∃ k, atL c s.data.toList = k := ⟨_, rfl⟩
  rw [hk] at hi hle
  have hcall := index1_c s c
  by_cases hlt : k < s.size
  · rw [if_pos hlt] at hi
    rw [hi] at hcall
    have HK := Lib.hid hk; have HSZ := Lib.hid hsz; clear hk hi hsz
    go_enter Tryd.func45, Tryd.ntmps45
    go_wp2_with fail
    refine (hcall _).mono ?_
    rintro e w' ⟨rfl, rfl⟩
    go_wp2
    go_quiet (fail)
    go_wp2
    go_ret3
    refine ⟨?_, _, rfl⟩
    unfold cutSays
    rw [HK.out]
    exact ret_cut (ext_pre s k) (ext_suf s (k + 1)) (by rw [HSZ.out]; simp [hlt])
  · rw [if_neg hlt] at hi
    rw [hi] at hcall
    have HK := Lib.hid hk; have HSZ := Lib.hid hsz; clear hk hi hsz
    go_enter Tryd.func45, Tryd.ntmps45
    go_wp2_with fail
    refine (hcall _).mono ?_
    rintro e w' ⟨rfl, rfl⟩
    go_wp2
    go_ret3
    refine ⟨?_, 0, rfl⟩
    unfold cutSays
    rw [HK.out]
    have hke : k = s.size := by omega
    exact ret_cut (by rw [hke, ← ext_pre]; simp) (by rw [hke, ← ext_suf]; apply ByteArray.ext; simp) (by rw [HSZ.out]; simp [hlt])
set_option maxRecDepth 100000 in
theorem cut1_any (s : ByteArray) (c : UInt8) (hs : s.size ≤ maxLen) (w : World) :
    Calls Tryd.prog 39 #[.string s, .string ⟨#[c]⟩] w fun e w' => e = cutSays c s.data.toList ∧ ∃ n, w' = w.drewN n := by
  go_enter Tryd.func39, Tryd.ntmps39
  go_wp2_with fail
  refine (slcut1_any s c hs _).mono ?_
  rintro e w' ⟨rfl, n, rfl⟩
  unfold cutSays
  go_wp2
  go_ret3
  exact ⟨rfl, _, rfl⟩
end Go.Proofs.YtefnkkjmcfpiaaaDoor
