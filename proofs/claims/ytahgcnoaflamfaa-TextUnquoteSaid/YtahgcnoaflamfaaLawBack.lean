/- TextBack's walk. -/
import Derived.Test.YtahgcnoaflamfaaAnswers
import Derived.Test.YtahgcnoaflamfaaRefUn
namespace Go.Proofs.Ytahgcnoaflamfaa
open Go.RowKit

theorem _root_.Go.RowKit.Below.chain {a b c : World} (h : Below a.heap.size a b) (h' : Below b.heap.size b c) : Below a.heap.size a c := h.trans (h'.mono h.size)

set_option maxRecDepth 100000 in
theorem textBack_law (s : ByteArray) (hs : s.size ≤ maxLen) (w : World) :
    Calls Try.prog 3 #[.string s] w fun e w' => e = .returned (.bool true) ∧ Below w.heap.size w w' := by
  unfold maxLen at hs
  by_cases h : s.size ≤ 3000
  · have hl := enc_len s.data.toList
    have hl0 : s.data.toList.length = s.size := rfl
    rw [hl0] at hl
    have HL := Lib.hid hl; clear hl hl0
    go_enter Try.func3, Try.ntmps3
    go_wp2_with fail
    refine (encode_any s (by omega) _).mono ?_
    rintro e w1 ⟨rfl, hb1⟩
    go_wp2_with fail
    refine (decode_yes ⟨(enc s.data.toList).toArray⟩ s.data.toList (dec_enc _) (by show (enc _).length ≤ _; rw [HL.out]; omega) _).mono ?_
    rintro e w2 ⟨rfl, hb2⟩
    go_wp2_with fail
    refine (answers_any _).mono ?_
    rintro e w3 ⟨rfl, hb3⟩
    go_wp2_with fail
    refine (refB64_any s (by omega) _).mono ?_
    rintro e w4 ⟨rfl, hb4⟩
    go_wp2
    go_ret
    exact ⟨ret_bool (by have := HL.out; simp; omega), ((hb1.chain hb2).chain hb3).chain hb4⟩
  · have h' : 3000 < s.size := by omega
    clear h
    go_enter Try.func3, Try.ntmps3
    go_wp2_with fail
    refine (answers_any _).mono ?_
    rintro e w3 ⟨rfl, hb3⟩
    go_wp2
    go_ret
    exact ⟨rfl, hb3⟩
end Go.Proofs.Ytahgcnoaflamfaa
