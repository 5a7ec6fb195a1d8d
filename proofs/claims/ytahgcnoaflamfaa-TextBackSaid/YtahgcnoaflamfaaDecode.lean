/- text.Decode by its loop. -/
import Derived.Test.YtahgcnoaflamfaaEncode
namespace Go.Proofs.Ytahgcnoaflamfaa
open Go.RowKit

theorem ix_any (c : UInt8) (w : World) :
    Calls Try.prog 20 #[.string ⟨#[65, 66, 67, 68, 69, 70, 71, 72, 73, 74, 75, 76, 77, 78, 79, 80, 81, 82, 83, 84, 85, 86, 87, 88, 89, 90, 97, 98, 99, 100, 101, 102, 103, 104, 105, 106, 107, 108, 109, 110, 111, 112, 113, 114, 115, 116, 117, 118, 119, 120, 121, 122, 48, 49, 50, 51, 52, 53, 54, 55, 56, 57, 45, 95]⟩, .int .u8 c.toNat] w fun e w' => e = .returned (.int .i64 (ix c)) ∧ w = w' := by
  refine (indexByte_any _ _ w).mono fun e w' ⟨he, hw⟩ => ⟨?_, hw⟩
  rw [he]
  refine ret_int ?_
  have : (c.toNat : Int).toNat.toUInt8 = c := by simp
  rw [this]; rfl

theorem push6_lt (H : Nat) (d : Nat) (hd : d < 64) : push6 H d < 4294967296 := by unfold push6; omega
theorem or_push6 (H : Nat) (d : Int) (h0 : 0 ≤ d) (h1 : d < 64) : bits .or .u32 ((H : Int) * 64 % 4294967296) d = (push6 H d.toNat : Int) := by
  rw [bits_join .u32 32 (by decide) (fun n h0 h1 => by rw [IntKind.wrap_u32]; omega) 6 _ _ (by omega) (by omega) (by omega) (by omega) (by omega) (by omega)]
  unfold push6; omega
theorem and_mask (x : Int) (h0 : 0 ≤ x) (h1 : x < 4294967296) (i : Nat) (hi : i ≤ 32) : bits .and .u32 x (2 ^ i - 1) = x % 2 ^ i :=
  bits_mask .u32 32 (by decide) (fun n h0 h1 => by rw [IntKind.wrap_u32]; omega) i hi x h0 h1

theorem cells_byte (l : List UInt8) (n m : Nat) (x : Int) (hx : x = (n : Int) % 256) (hn : n % 256 = m % 256) : cells l ++ [Value.int .u8 x] = cells (l ++ [UInt8.ofNat m]) := by
  subst hx
  rw [cells_app]
  have : (UInt8.ofNat m).toNat = m % 256 := UInt8.toNat_ofNat'
  show _ = cells l ++ [Value.int .u8 ((UInt8.ofNat m).toNat : Int)]
  rw [this, ← hn]; rfl

def DecAt (l : List UInt8) (k : Nat) (H bits : Nat) (acc : List UInt8) : Prop := dec l = (decS H bits (l.drop k)).map (acc ++ ·)
theorem decAt_start (l : List UInt8) : DecAt l 0 0 0 [] := by unfold DecAt; rw [List.drop_zero, decS_dec]; simp
theorem decAt_bad {l acc : List UInt8} {k H bits : Nat} (h : DecAt l k H bits acc) (hk : k < l.length) (hc : ix l[k] < 0) : dec l = none := by
  unfold DecAt at h; rw [h, List.drop_eq_getElem_cons hk, decS, if_pos hc]; rfl
theorem decAt_0 {l acc : List UInt8} {k H : Nat} (h : DecAt l k H 0 acc) (hk : k < l.length) (hc : 0 ≤ ix l[k]) : DecAt l (k + 1) (push6 H (ix l[k]).toNat) 6 acc := by
  unfold DecAt at h ⊢; rw [h, List.drop_eq_getElem_cons hk, decS, if_neg (by omega), if_pos (by decide)]
theorem decAt_s {l acc : List UInt8} {k H bits : Nat} (h : DecAt l k H bits acc) (hb : 2 ≤ bits) (hk : k < l.length) (hc : 0 ≤ ix l[k]) :
    DecAt l (k + 1) (push6 H (ix l[k]).toNat) (bits - 2) (acc ++ [UInt8.ofNat (push6 H (ix l[k]).toNat / 2 ^ (bits - 2))]) := by
  unfold DecAt at h ⊢; rw [h, List.drop_eq_getElem_cons hk, decS, if_neg (by omega), if_neg (by omega), Option.map_map]; congr 1; funext x; simp
theorem decAt_end {l acc : List UInt8} {H bits : Nat} (h : DecAt l l.length H bits acc) (hb : bits < 6) (hm : H % 2 ^ bits = 0) : dec l = some acc := by
  unfold DecAt at h; rw [h, List.drop_length, decS, if_pos ⟨hb, hm⟩]; simp
theorem decAt_not {l acc : List UInt8} {H bits : Nat} (h : DecAt l l.length H bits acc) (hb : bits = 6 ∨ H % 2 ^ bits ≠ 0) : dec l = none := by
  unfold DecAt at h; rw [h, List.drop_length, decS, if_neg (by omega)]; rfl

/-- what Decode answers -/
def DecSays (l : List UInt8) (e : Ending) : Prop :=
  (∃ o, dec l = some o ∧ e = .returned (.tuple #[.string ⟨o.toArray⟩, .int .i64 0])) ∨ (dec l = none ∧ e = .returned (.tuple #[.string ⟨#[]⟩, .int .i64 2]))

set_option maxHeartbeats 1000000 in
set_option maxRecDepth 100000 in
theorem decode_says (s : ByteArray) (hs : s.size ≤ 46912496117759) (w : World) :
    Calls Try.prog 12 #[.string s] w fun e w' => DecSays s.data.toList e ∧ Below w.heap.size w w' := by
  obtain ⟨i0, hi, hz0, hz1, hz2⟩ := info_parts Try.infoByte
  go_enter Try.func12, Try.ntmps12
  go_wp2_with (at_make; refine wpList_make_own _ rfl _ _ 31 rfl w.heap.size 5 i0 _ 1 Try.underlying31 hi hz0 hz1 _ _ _ (s.size / 4 * 3 + 3) rfl rfl (by omega) (by rw [hz2]; omega) (by unfold maxLen; omega) (Nat.le_refl _) ?_)
  intro w0 hown0 hg0
  have hb0 : Below w.heap.size w w0 := (Below.refl _ _).grown hg0 (Nat.le_refl _) (by simp)
  go_wp2
  go_loopw [4, 5, 6, 17] (fun v h b i wr => ∃ (k H bits : Nat) (acc : List UInt8), k ≤ s.size ∧ i = .int .i64 k ∧ h = .int .u32 H ∧ H < 4294967296 ∧ b = .int .i64 bits ∧ (bits = 0 ∨ bits = 6 ∨ bits = 4 ∨ bits = 2) ∧ Buf wr w.heap.size v acc ∧ acc.length ≤ k ∧ DecAt s.data.toList k H bits acc ∧ Below w.heap.size w wr) (fun _ _ _ i _ => s.size - (intOf i).toNat)
  case atStart => exact ⟨0, 0, 0, [], Nat.zero_le _, rfl, rfl, by decide, rfl, .inl rfl, hown0, Nat.zero_le _, decAt_start _, hb0⟩
  case round =>
    obtain ⟨k, H, bts, acc, hk, rfl, rfl, hH, rfl, h0642, hown, hal, hat, hb⟩ := hrel
    have HA := Lib.hid hat; clear hat
    have hbs := hb.size
    by_cases hlt : k < s.size
    · by_cases hc : ix s[k] < 0
      · have HC := Lib.hid hc
        have HO := Lib.hid h0642; clear h0642
        go_wp2_with (go_at_call 20; refine (ix_any _ _).mono ?_; rintro e w' ⟨rfl, rfl⟩)
        go_ret2
        exact ⟨Or.inr ⟨decAt_bad HA.out hlt HC.out, rfl⟩, hb⟩
      · have hc : 0 ≤ ix s[k] := by omega
        have hix : ix s[k] < 64 := by rcases ix_cases s[k] with h | h <;> omega
        have HC := Lib.hid hc
        have hp := push6_lt H (ix s[k]).toNat (by omega)
        have ho := or_push6 H (ix s[k]) (by omega) hix
        rcases h0642 with rfl | rfl | rfl | rfl
        · go_wp2_with (go_at_call 20; refine (ix_any _ _).mono ?_; rintro e w' ⟨rfl, rfl⟩)
          go_roundw
          case rel => exact ⟨k + 1, push6 H (ix s[k]).toNat, 6, acc, by omega, by go_num, rfl, hp, rfl, .inr (.inl rfl), hown, by omega, decAt_0 HA.out hlt HC.out, hb⟩
          case measure => simp [intOf]; omega
        · go_wp2_with (first
            | (go_at_call 20; refine (ix_any _ _).mono ?_; rintro e w' ⟨rfl, rfl⟩)
            | (at_builtin; refine wpList_append_own _ rfl (.tmp 37) (.tmp 42) 31 rfl w.heap.size 5 i0 _ 1 1 Try.underlying31 hi hz0 hz1 hz2 rfl (by decide) _ _ _ rfl (World.ownsRow.alloc hown _) ⟨_, 0, none⟩ 1 1 [.int .u8 _] rfl rfl (new_cells _ #[_] _) (one_cell _) (by unfold maxLen; omega) (by omega) (by simp; omega) ?_))
          intro v' w1 hown' hg' _
          have hb1 : Below w.heap.size w w1 := (hb.alloc hbs _).grown hg' (by simp; omega) (fun j hj => (hown.lt j hj).1)
          go_wp2
          go_roundw
          case rel => exact ⟨k + 1, push6 H (ix s[k]).toNat, 4, acc ++ [UInt8.ofNat (push6 H (ix s[k]).toNat / 16)], by omega, by go_num, rfl, hp, rfl, .inr (.inr (.inl rfl)), Buf.cut hown' (by simp) (cells_byte _ (push6 H (ix s[k]).toNat / 16) _ _ (by omega) rfl), by simp; omega, decAt_s HA.out (by decide) hlt HC.out, hb1⟩
          case measure => simp [intOf]; omega
        · go_wp2_with (first
            | (go_at_call 20; refine (ix_any _ _).mono ?_; rintro e w' ⟨rfl, rfl⟩)
            | (at_builtin; refine wpList_append_own _ rfl (.tmp 37) (.tmp 42) 31 rfl w.heap.size 5 i0 _ 1 1 Try.underlying31 hi hz0 hz1 hz2 rfl (by decide) _ _ _ rfl (World.ownsRow.alloc hown _) ⟨_, 0, none⟩ 1 1 [.int .u8 _] rfl rfl (new_cells _ #[_] _) (one_cell _) (by unfold maxLen; omega) (by omega) (by simp; omega) ?_))
          intro v' w1 hown' hg' _
          have hb1 : Below w.heap.size w w1 := (hb.alloc hbs _).grown hg' (by simp; omega) (fun j hj => (hown.lt j hj).1)
          go_wp2
          go_roundw
          case rel => exact ⟨k + 1, push6 H (ix s[k]).toNat, 2, acc ++ [UInt8.ofNat (push6 H (ix s[k]).toNat / 4)], by omega, by go_num, rfl, hp, rfl, .inr (.inr (.inr rfl)), Buf.cut hown' (by simp) (cells_byte _ (push6 H (ix s[k]).toNat / 4) _ _ (by omega) rfl), by simp; omega, decAt_s HA.out (by decide) hlt HC.out, hb1⟩
          case measure => simp [intOf]; omega
        · go_wp2_with (first
            | (go_at_call 20; refine (ix_any _ _).mono ?_; rintro e w' ⟨rfl, rfl⟩)
            | (at_builtin; refine wpList_append_own _ rfl (.tmp 37) (.tmp 42) 31 rfl w.heap.size 5 i0 _ 1 1 Try.underlying31 hi hz0 hz1 hz2 rfl (by decide) _ _ _ rfl (World.ownsRow.alloc hown _) ⟨_, 0, none⟩ 1 1 [.int .u8 _] rfl rfl (new_cells _ #[_] _) (one_cell _) (by unfold maxLen; omega) (by omega) (by simp; omega) ?_))
          intro v' w1 hown' hg' _
          have hb1 : Below w.heap.size w w1 := (hb.alloc hbs _).grown hg' (by simp; omega) (fun j hj => (hown.lt j hj).1)
          go_wp2
          go_roundw
          case rel => exact ⟨k + 1, push6 H (ix s[k]).toNat, 0, acc ++ [UInt8.ofNat (push6 H (ix s[k]).toNat / 1)], by omega, by go_num, rfl, hp, rfl, .inl rfl, Buf.cut hown' (by simp) (cells_byte _ (push6 H (ix s[k]).toNat / 1) _ _ (by omega) rfl), by simp; omega, decAt_s HA.out (by decide) hlt HC.out, hb1⟩
          case measure => simp [intOf]; omega
    · have hke : k = s.size := by omega
      subst hke
      have hcv := hown.text
      rcases h0642 with rfl | rfl | rfl | rfl
      · have hq : bits .and .u32 (H : Int) 0 = 0 := by have := and_mask H (by omega) (by omega) 0 (by decide); simpa using this
        go_wp2
        go_ret2
        exact ⟨Or.inl ⟨acc, decAt_end HA.out (by decide) (by omega), rfl⟩, hb⟩
      · go_wp2
        go_ret2
        exact ⟨Or.inr ⟨decAt_not HA.out (.inl rfl), rfl⟩, hb⟩
      · have hq : bits .and .u32 (H : Int) 15 = (H : Int) % 16 := and_mask H (by omega) (by omega) 4 (by decide)
        by_cases hm : H % 16 = 0
        · have ht : ((H : Int) % 16 != 0) = false := by simp; omega
          have HM := Lib.hid hm; clear hm
          go_wp2
          go_ret2
          exact ⟨Or.inl ⟨acc, decAt_end HA.out (by decide) HM.out, rfl⟩, hb⟩
        · have ht : ((H : Int) % 16 != 0) = true := by simp; omega
          have HM := Lib.hid hm; clear hm
          go_wp2
          go_ret2
          exact ⟨Or.inr ⟨decAt_not HA.out (.inr HM.out), rfl⟩, hb⟩
      · have hq : bits .and .u32 (H : Int) 3 = (H : Int) % 4 := and_mask H (by omega) (by omega) 2 (by decide)
        by_cases hm : H % 4 = 0
        · have ht : ((H : Int) % 4 != 0) = false := by simp; omega
          have HM := Lib.hid hm; clear hm
          go_wp2
          go_ret2
          exact ⟨Or.inl ⟨acc, decAt_end HA.out (by decide) HM.out, rfl⟩, hb⟩
        · have ht : ((H : Int) % 4 != 0) = true := by simp; omega
          have HM := Lib.hid hm; clear hm
          go_wp2
          go_ret2
          exact ⟨Or.inr ⟨decAt_not HA.out (.inr HM.out), rfl⟩, hb⟩
end Go.Proofs.Ytahgcnoaflamfaa
