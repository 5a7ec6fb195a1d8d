/- 'answers' answers true. -/
import Derived.Test.YtahgcnoaflamfaaEqual
import Derived.Test.YtahgcnoaflamfaaDecode
import Derived.Test.YtahgcnoaflamfaaUnquote
namespace Go.Proofs.Ytahgcnoaflamfaa
open Go.RowKit

theorem DecSays.yes {l o : List UInt8} {e : Ending} (hd : DecSays l e) (h : dec l = some o) : e = .returned (.tuple #[.string ⟨o.toArray⟩, .int .i64 0]) := by
  rcases hd with ⟨o', h', he⟩ | ⟨h', _⟩
  · rw [h] at h'; injection h' with h'; rw [he, h']
  · rw [h] at h'; cases h'
theorem DecSays.no {l : List UInt8} {e : Ending} (hd : DecSays l e) (h : dec l = none) : e = .returned (.tuple #[.string ⟨#[]⟩, .int .i64 2]) := by
  rcases hd with ⟨o', h', he⟩ | ⟨h', he⟩
  · rw [h] at h'; cases h'
  · exact he
theorem decode_yes (s : ByteArray) (o : List UInt8) (h : dec s.data.toList = some o) (hs : s.size ≤ 46912496117759) (w : World) :
    Calls Try.prog 12 #[.string s] w fun e w' => e = .returned (.tuple #[.string ⟨o.toArray⟩, .int .i64 0]) ∧ Below w.heap.size w w' :=
  (decode_says s hs w).mono fun _ _ ⟨hd, hw⟩ => ⟨hd.yes h, hw⟩
theorem decode_no (s : ByteArray) (h : dec s.data.toList = none) (hs : s.size ≤ 46912496117759) (w : World) :
    Calls Try.prog 12 #[.string s] w fun e w' => e = .returned (.tuple #[.string ⟨#[]⟩, .int .i64 2]) ∧ Below w.heap.size w w' :=
  (decode_says s hs w).mono fun _ _ ⟨hd, hw⟩ => ⟨hd.no h, hw⟩

theorem ans_dec (w : World) : Calls Try.prog 12 #[.string ⟨#[95, 119]⟩] w fun e w' => e = .returned (.tuple #[.string ⟨#[255]⟩, .int .i64 0]) ∧ Below w.heap.size w w' :=
  decode_yes ⟨#[95, 119]⟩ [255] (by decide +kernel) (by decide) w
theorem ans_enc (w : World) : Calls Try.prog 11 #[.string ⟨#[255]⟩] w fun e w' => e = .returned (.string ⟨#[95, 119]⟩) ∧ Below w.heap.size w w' := by
  refine (encode_any ⟨#[255]⟩ (by decide) w).mono fun e w' ⟨he, hw⟩ => ⟨?_, hw⟩
  rw [he]
  have : enc (ByteArray.mk #[255]).data.toList = [95, 119] := by decide +kernel
  rw [this]
theorem ans_eq (w : World) : Calls Try.prog 15 #[.string ⟨#[97]⟩, .string ⟨#[97]⟩] w fun e w' => e = .returned (.bool true) ∧ w = w' := by
  refine (equal_any ⟨#[97]⟩ ⟨#[97]⟩ (by decide) (by decide) w).mono fun e w' ⟨he, hw⟩ => ⟨?_, hw⟩
  rw [he]
  have : eqB (ByteArray.mk #[97]) (ByteArray.mk #[97]) = true := by decide +kernel
  rw [this]
theorem ans_quote (w : World) : Calls Try.prog 16 #[.string ⟨#[97, 32, 98]⟩] w fun e w' => e = .returned (.string ⟨#[97, 37, 50, 48, 98]⟩) ∧ Below w.heap.size w w' := by
  refine (quote_any ⟨#[97, 32, 98]⟩ (by decide) w).mono fun e w' ⟨he, hw⟩ => ⟨?_, hw⟩
  rw [he]
  have : quoteL (ByteArray.mk #[97, 32, 98]).data.toList = [97, 37, 50, 48, 98] := by decide +kernel
  rw [this]

set_option maxRecDepth 100000 in
theorem answers_any (w : World) : Calls Try.prog 10 #[] w fun e w' => e = .returned (.bool true) ∧ Below w.heap.size w w' := by
  go_enter Try.func10, Try.ntmps10
  go_wp2_with fail
  refine (ans_dec _).mono ?_
  rintro e w1 ⟨rfl, hb1⟩
  go_wp2_with fail
  refine (ans_enc _).mono ?_
  rintro e w2 ⟨rfl, hb2⟩
  go_wp2_with fail
  refine (ans_eq _).mono ?_
  rintro e w' ⟨rfl, rfl⟩
  go_wp2_with fail
  refine (ans_quote _).mono ?_
  rintro e w3 ⟨rfl, hb3⟩
  go_wp2
  go_ret
  exact ⟨rfl, (hb1.trans (hb2.mono hb1.size)).trans (hb3.mono (Nat.le_trans hb1.size hb2.size))⟩
end Go.Proofs.Ytahgcnoaflamfaa
