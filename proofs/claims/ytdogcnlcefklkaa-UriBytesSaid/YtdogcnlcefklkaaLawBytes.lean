/- The walk of UriBytes. -/
import Derived.Test.YtdogcnlcefklkaaAns3
import Derived.Test.YtdogcnlcefklkaaRefUri
namespace Go.Proofs.Ytdogcnlcefklkaa
open Go.RowKit

def lawText : List UInt8 := [104, 116, 116, 112, 115, 58, 47, 47, 97, 98, 47, 99, 100, 63, 101, 102]
def inText (k : Nat) (c : UInt8) : List UInt8 := lawText.take k ++ [c] ++ lawText.drop k
theorem inText_is (k : Nat) (c : UInt8) : (ByteArray.mk #[104, 116, 116, 112, 115, 58, 47, 47, 97, 98, 47, 99, 100, 63, 101, 102]).extract 0 k ++ ⟨#[c]⟩ ++ (ByteArray.mk #[104, 116, 116, 112, 115, 58, 47, 47, 97, 98, 47, 99, 100, 63, 101, 102]).extract k 16 = str (inText k c) := by
  have e1 : (ByteArray.mk #[104, 116, 116, 112, 115, 58, 47, 47, 97, 98, 47, 99, 100, 63, 101, 102]).extract 0 k = str (lawText.take k) := ext_pre _ k
  have e2 : (ByteArray.mk #[104, 116, 116, 112, 115, 58, 47, 47, 97, 98, 47, 99, 100, 63, 101, 102]).extract k 16 = str (lawText.drop k) := ext_suf (ByteArray.mk #[104, 116, 116, 112, 115, 58, 47, 47, 97, 98, 47, 99, 100, 63, 101, 102]) k
  have e3 : (⟨#[c]⟩ : ByteArray) = str [c] := rfl
  rw [e1, e2, e3, str_app, str_app]; rfl
theorem inText_len (k : Nat) (hk : k ≤ 16) (c : UInt8) : (inText k c).length = 17 := by
  unfold inText; simp [lawText]; omega
theorem inText_odd (k : Nat) (hk : k ≤ 16) (c : UInt8) (h : c.toNat < 33 ∨ 126 < c.toNat) : uriE (inText k c) = 2 := by
  refine (uri_bad (by rw [inText_len k hk c]; decide) (uri_char ?_)).1
  unfold okL
  rw [List.all_eq_false]
  refine ⟨c, by simp [inText], ?_⟩
  unfold charB
  rcases h with h | h
  · simp; omega
  · simp; omega
set_option maxRecDepth 100000 in
set_option maxHeartbeats 2000000 in
theorem uriBytes_walk (x y : Int) (hx : (Lit.int .u8 x).wf = true) (hy : (Lit.int .u8 y).wf = true) (w : World) (hv : VarIn w) : Calls Try.prog 6 #[.int .u8 x, .int .u8 y] w fun e w' => e = .returned (.bool true) ∧ Below w.heap.size w w' := by
  obtain ⟨c, rfl⟩ := byte_ex hx
  obtain ⟨y0, y1⟩ := byte_of_wf hy
  obtain ⟨n, rfl⟩ := Int.eq_ofNat_of_zero_le y0
  have hc8 := c.toNat_lt
  clear hx hy
  have kc := conv_newD w [c] #[.int .u8 (c.toNat : Int)] 1 1 rfl rfl
  have e2 : (n : Int).tmod 17 = ((n % 17 : Nat) : Int) := by rw [Int.tmod_eq_emod_of_nonneg (by omega)]; omega
  have hk : n % 17 ≤ 16 := by omega
  generalize n % 17 = k at *
  go_enter Try.func6, Try.ntmps6
  go_wp2
  go_region
  have hT := inText_is k c
  have hpT := parse_any (str (inText k c)) (by rw [str_size, inText_len k hk c]; decide)
  have hrT := refUri_any (str (inText k c)) (by rw [str_size, inText_len k hk c]; decide)
  have hodd := inText_odd k hk c
  rw [str_list] at hpT hrT
  rw [hT]
  unfold uriSays uval at hpT hrT
  generalize (ByteArray.mk #[104, 116, 116, 112, 115, 58, 47, 47, 97, 98, 47, 99, 100, 63, 101, 102]).extract 0 k = G1
  generalize (ByteArray.mk #[104, 116, 116, 112, 115, 58, 47, 47, 97, 98, 47, 99, 100, 63, 101, 102]).extract k 16 = G2
  generalize uriE (inText k c) = E at *
  generalize uriV (inText k c) = V at *
  generalize str (inText k c) = T at *
  clear kc e2 hT
  obtain ⟨va, vb, vc, vd⟩ := V
  dsimp only at hpT hrT
  have hb0 : Below w.heap.size w (w.alloc (.cells #[.int .u8 (c.toNat : Int)] 5)).drew := ((Below.refl _ _).alloc (Nat.le_refl _) _).drew
  have hEE : (E == E) = true := by simp
  go_wp2_with fail
  refine (hpT _ (hv.below hb0)).mono ?_
  rintro e w1 ⟨rfl, hb1⟩
  go_wp2_with fail
  refine (hrT _).mono ?_
  rintro e w2 ⟨rfl, hb2⟩
  have hb3 := (hb0.chain hb1).chain (((Below.refl _ _).alloc (Nat.le_refl _) (.cells #[.string (str va), .string (str vb), .string (str vc), .string (str vd)] 23)).chain hb2)
  have hb4 := hb3.chain ((Below.refl _ _).alloc (Nat.le_refl _) (.cells #[.string (str va), .string (str vb), .string (str vc), .string (str vd)] 23))
  by_cases h33 : c.toNat < 33
  · have hd : decide ((c.toNat : Int) < 33) = true := by simp; omega
    obtain rfl := hodd (Or.inl h33)
    go_wp2_with fail
    refine (answers3_any _ (hv.below hb4)).mono ?_
    rintro e w5 ⟨rfl, hb5⟩
    go_wp2
    go_ret
    exact ⟨rfl, hb4.chain hb5⟩
  · have hd : decide ((c.toNat : Int) < 33) = false := by simp; omega
    by_cases h126 : 126 < c.toNat
    · have hd2 : decide ((126 : Int) < (c.toNat : Int)) = true := by simp; omega
      obtain rfl := hodd (Or.inr h126)
      go_wp2_with fail
      refine (answers3_any _ (hv.below hb4)).mono ?_
      rintro e w5 ⟨rfl, hb5⟩
      go_wp2
      go_ret
      exact ⟨rfl, hb4.chain hb5⟩
    · have hd2 : decide ((126 : Int) < (c.toNat : Int)) = false := by simp; omega
      clear hodd
      go_wp2_with fail
      refine (answers3_any _ (hv.below hb4)).mono ?_
      rintro e w5 ⟨rfl, hb5⟩
      go_wp2
      go_ret
      exact ⟨rfl, hb4.chain hb5⟩
end Go.Proofs.Ytdogcnlcefklkaa
