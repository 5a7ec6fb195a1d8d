/- TextQuotes' and TextLengths' walks. -/
import Derived.Test.YtahgcnoaflamfaaLawReads
import Derived.Test.YtahgcnoaflamfaaRefQuote
import Derived.Test.YtahgcnoaflamfaaRefUnquote
namespace Go.Proofs.Ytahgcnoaflamfaa
open Go.RowKit

theorem RefUnqSays.yes {l o : List UInt8} {e : Ending} (hd : RefUnqSays l e) (h : unq l = some o) : e = .returned (.tuple #[.string ⟨o.toArray⟩, .bool true]) := by
  rcases hd with ⟨o', h', he⟩ | ⟨h', _⟩
  · rw [h] at h'; injection h' with h'; rw [he, h']
  · rw [h] at h'; cases h'
theorem RefUnqSays.no {l : List UInt8} {e : Ending} (hd : RefUnqSays l e) (h : unq l = none) : e = .returned (.tuple #[.string ⟨#[]⟩, .bool false]) := by
  rcases hd with ⟨o', h', he⟩ | ⟨h', he⟩
  · rw [h] at h'; cases h'
  · exact he
theorem refUnquote_yes (s : ByteArray) (o : List UInt8) (h : unq s.data.toList = some o) (hs : s.size ≤ 140737488351232) (w : World) :
    Calls Try.prog 19 #[.string s] w fun e w' => e = .returned (.tuple #[.string ⟨o.toArray⟩, .bool true]) ∧ Below w.heap.size w w' :=
  (refUnquote_says s hs w).mono fun _ _ ⟨hd, hw⟩ => ⟨hd.yes h, hw⟩
theorem refUnquote_no (s : ByteArray) (h : unq s.data.toList = none) (hs : s.size ≤ 140737488351232) (w : World) :
    Calls Try.prog 19 #[.string s] w fun e w' => e = .returned (.tuple #[.string ⟨#[]⟩, .bool false]) ∧ Below w.heap.size w w' :=
  (refUnquote_says s hs w).mono fun _ _ ⟨hd, hw⟩ => ⟨hd.no h, hw⟩

theorem hexU_all : ∀ n : Nat, n < 256 → digB (hexU (n / 16)) = true ∧ digB (hexU (n % 16)) = true ∧ hexByte (hexU (n / 16)) (hexU (n % 16)) = UInt8.ofNat n := by decide +kernel
theorem plain_not (c : UInt8) (h : plainB c = true) : c.toNat ≠ 43 ∧ c.toNat ≠ 37 := by simp [plainB] at h; omega
theorem unq_quote1 (c : UInt8) (r : List UInt8) : unq (quote1 c ++ r) = (unq r).map (c :: ·) := by
  unfold quote1
  split
  · rename_i h
    exact unq_same _ (plain_not c h).1 (plain_not c h).2
  · have := hexU_all c.toNat c.toNat_lt
    show unq (37 :: hexU (c.toNat / 16) :: hexU (c.toNat % 16) :: r) = _
    rw [unq_hex _ _ _ (by decide), this.1, this.2.1, this.2.2, UInt8.ofNat_toNat]; rfl
theorem unq_quoteL (l : List UInt8) : unq (quoteL l) = some l := by
  induction l with
  | nil => rfl
  | cons c l ih =>
    have : quoteL (c :: l) = quote1 c ++ quoteL l := by simp [quoteL]
    rw [this, unq_quote1, ih]; rfl

set_option maxRecDepth 100000 in
theorem textQuotes_law (b s : ByteArray) (hb : b.size ≤ maxLen) (hs : s.size ≤ maxLen) (w : World) :
    Calls Try.prog 6 #[.string b, .string s] w fun e w' => e = .returned (.bool true) ∧ Below w.heap.size w w' := by
  unfold maxLen at hs hb
  by_cases h : b.size ≤ 3000
  · by_cases h2 : s.size ≤ 3000
    · have hql := quoteL_le b.data.toList
      have hl0 : b.data.toList.length = b.size := rfl
      rw [hl0] at hql
      clear hl0
      cases hd : unq s.data.toList with
      | none =>
        have HD := Lib.hid hd; clear hd
        go_enter Try.func6, Try.ntmps6
        go_wp2_with fail
        refine (quote_any b (by omega) _).mono ?_
        rintro e w1 ⟨rfl, hb1⟩
        go_wp2_with fail
        refine (unquote_yes ⟨(quoteL b.data.toList).toArray⟩ b.data.toList (unq_quoteL _) (by show (quoteL _).length ≤ _; omega) _).mono ?_
        rintro e w2 ⟨rfl, hb2⟩
        go_wp2_with fail
        refine (refQuote_any b (by omega) _).mono ?_
        rintro e w3 ⟨rfl, hb3⟩
        go_wp2_with fail
        refine (unquote_no s HD.out (by omega) _).mono ?_
        rintro e w4 ⟨rfl, hb4⟩
        go_wp2_with fail
        refine (refUnquote_no s HD.out (by omega) _).mono ?_
        rintro e w5 ⟨rfl, hb5⟩
        go_wp2_with fail
        refine (answers_any _).mono ?_
        rintro e w6 ⟨rfl, hb6⟩
        go_wp2
        go_ret
        exact ⟨rfl, ((((hb1.chain hb2).chain hb3).chain hb4).chain hb5).chain hb6⟩
      | some o =>
        have HD := Lib.hid hd; clear hd
        go_enter Try.func6, Try.ntmps6
        go_wp2_with fail
        refine (quote_any b (by omega) _).mono ?_
        rintro e w1 ⟨rfl, hb1⟩
        go_wp2_with fail
        refine (unquote_yes ⟨(quoteL b.data.toList).toArray⟩ b.data.toList (unq_quoteL _) (by show (quoteL _).length ≤ _; omega) _).mono ?_
        rintro e w2 ⟨rfl, hb2⟩
        go_wp2_with fail
        refine (refQuote_any b (by omega) _).mono ?_
        rintro e w3 ⟨rfl, hb3⟩
        go_wp2_with fail
        refine (unquote_yes s o HD.out (by omega) _).mono ?_
        rintro e w4 ⟨rfl, hb4⟩
        go_wp2_with fail
        refine (refUnquote_yes s o HD.out (by omega) _).mono ?_
        rintro e w5 ⟨rfl, hb5⟩
        go_wp2_with fail
        refine (answers_any _).mono ?_
        rintro e w6 ⟨rfl, hb6⟩
        go_wp2
        go_ret
        exact ⟨rfl, ((((hb1.chain hb2).chain hb3).chain hb4).chain hb5).chain hb6⟩
    · have h2' : 3000 < s.size := by omega
      clear h2
      go_enter Try.func6, Try.ntmps6
      go_wp2_with fail
      refine (answers_any _).mono ?_
      rintro e w3 ⟨rfl, hb3⟩
      go_wp2
      go_ret
      exact ⟨rfl, hb3⟩
  · have h' : 3000 < b.size := by omega
    clear h
    go_enter Try.func6, Try.ntmps6
    go_wp2_with fail
    refine (answers_any _).mono ?_
    rintro e w3 ⟨rfl, hb3⟩
    go_wp2
    go_ret
    exact ⟨rfl, hb3⟩

theorem app_list (a : List UInt8) (c : UInt8) : (ByteArray.mk a.toArray ++ ByteArray.mk #[c]).data.toList = a ++ [c] := by simp [ByteArray.data_append]
theorem app_size (a : List UInt8) (c : UInt8) (h : a.length ≤ 1000) : (ByteArray.mk a.toArray ++ ByteArray.mk #[c]).size ≤ 46912496117759 := by
  have : (ByteArray.mk a.toArray ++ ByteArray.mk #[c]).size = (ByteArray.mk a.toArray ++ ByteArray.mk #[c]).data.toList.length := rfl
  rw [this, app_list, List.length_append]; simp; omega
set_option maxRecDepth 100000 in
theorem textLengths_law (s : ByteArray) (hs : s.size ≤ maxLen) (w : World) :
    Calls Try.prog 7 #[.string s] w fun e w' => e = .returned (.bool true) ∧ Below w.heap.size w w' := by
  unfold maxLen at hs
  by_cases h : s.size ≤ 500
  · have hl := enc_len s.data.toList
    have hl0 : s.data.toList.length = s.size := rfl
    rw [hl0] at hl
    have hl' : (enc s.data.toList).length ≤ 1000 := by omega
    have HL := Lib.hid hl; clear hl hl0
    go_enter Try.func7, Try.ntmps7
    go_wp2_with fail
    refine (encode_any s (by omega) _).mono ?_
    rintro e w1 ⟨rfl, hb1⟩
    cases hd : dec (enc s.data.toList ++ [65]) with
    | none =>
      have HD := Lib.hid hd; clear hd
      go_wp2_with fail
      refine (decode_no _ (by rw [app_list]; exact dec_bad _ 61 (by decide +kernel)) (app_size _ _ hl') _).mono ?_
      rintro e w2 ⟨rfl, hb2⟩
      go_wp2_with fail
      refine (decode_no _ (by rw [app_list]; exact HD.out) (app_size _ _ hl') _).mono ?_
      rintro e w3 ⟨rfl, hb3⟩
      go_wp2_with fail
      refine (refUn_no _ (by rw [app_list]; exact HD.out) (app_size _ _ hl') _).mono ?_
      rintro e w4 ⟨⟨x, rfl⟩, hb4⟩
      go_wp2_with fail
      refine (answers_any _).mono ?_
      rintro e w5 ⟨rfl, hb5⟩
      go_wp2
      all_goals
        go_ret
        exact ⟨rfl, (((hb1.chain hb2).chain hb3).chain hb4).chain hb5⟩
    | some o =>
      have hfit : ¬ ((enc s.data.toList).length + 1) % 4 = 1 := fun h => by
        rw [dec_len (by rw [List.length_append]; exact h)] at hd; cases hd
      have ht : (((enc s.data.toList).length + 1 : Int) % 4 != 1) = true := by simp; omega
      have HD := Lib.hid hd; clear hd hfit
      go_wp2_with fail
      refine (decode_no _ (by rw [app_list]; exact dec_bad _ 61 (by decide +kernel)) (app_size _ _ hl') _).mono ?_
      rintro e w2 ⟨rfl, hb2⟩
      go_wp2_with fail
      refine (decode_yes _ o (by rw [app_list]; exact HD.out) (app_size _ _ hl') _).mono ?_
      rintro e w3 ⟨rfl, hb3⟩
      go_wp2_with fail
      refine (refUn_yes _ o (by rw [app_list]; exact HD.out) (app_size _ _ hl') _).mono ?_
      rintro e w4 ⟨rfl, hb4⟩
      go_wp2_with fail
      refine (answers_any _).mono ?_
      rintro e w5 ⟨rfl, hb5⟩
      go_wp2
      go_ret
      exact ⟨rfl, (((hb1.chain hb2).chain hb3).chain hb4).chain hb5⟩
  · have h' : 500 < s.size := by omega
    clear h
    go_enter Try.func7, Try.ntmps7
    go_wp2_with fail
    refine (answers_any _).mono ?_
    rintro e w3 ⟨rfl, hb3⟩
    go_wp2
    go_ret
    exact ⟨rfl, hb3⟩
end Go.Proofs.Ytahgcnoaflamfaa
