/- Texts merged by program, in build order: Encode, Decode, RefB64, RefUn, Sum6, Sum5. -/
import Derived.Test.YtdiljjoaihfloaaDoorC03
import Derived.Test.YtdiljjoaihfloaaDoorC02
namespace Go.Proofs.YtdiljjoaihfloaaDoor
open Go.RowKit

theorem push8_lt (H : Nat) (b : UInt8) : push8 H b < 4294967296 := by have := b.toNat_lt; unfold push8; omega
theorem or_push8 (H : Nat) (b : UInt8) : bits .or .u32 ((H : Int) * 256 % 4294967296) ((b.toNat : Int) % 4294967296) = (push8 H b : Int) := by
  have := b.toNat_lt
  rw [show (b.toNat : Int) % 4294967296 = b.toNat by omega]
  rw [bits_join .u32 32 (by decide) (fun n h0 h1 => by rw [IntKind.wrap_u32]; omega) 8 _ _ (by omega) (by omega) (by omega) (by omega) (by omega) (by omega)]
  unfold push8; omega
theorem and63 (x : Int) (h0 : 0 ≤ x) (h1 : x < 4294967296) : bits .and .u32 x 63 = x % 64 :=
  bits_mask .u32 32 (by decide) (fun n h0 h1 => by rw [IntKind.wrap_u32]; omega) 6 (by decide) x h0 h1

theorem cells_ltr (l : List UInt8) (n m : Nat) (hn : n = m) (h : n < (ByteArray.mk ltrs).size) : cells l ++ [Value.int .u8 ((ByteArray.mk ltrs)[n].toNat : Int)] = cells (l ++ [ltr m]) := by
  subst hn
  rw [ltr_at h, cells_app]; rfl

def EncAt (l : List UInt8) (k : Nat) (H bits : Nat) (acc : List UInt8) : Prop := enc l = acc ++ encS H bits (l.drop k)

theorem encAt_0 {l acc : List UInt8} {k H : Nat} (h : EncAt l k H 0 acc) (hk : k < l.length) : EncAt l (k + 1) (push8 H l[k]) 2 (acc ++ [ltr (push8 H l[k] / 4 % 64)]) := by
  unfold EncAt at h ⊢; rw [h, List.drop_eq_getElem_cons hk, encS_0]; simp
theorem encAt_2 {l acc : List UInt8} {k H : Nat} (h : EncAt l k H 2 acc) (hk : k < l.length) : EncAt l (k + 1) (push8 H l[k]) 4 (acc ++ [ltr (push8 H l[k] / 16 % 64)]) := by
  unfold EncAt at h ⊢; rw [h, List.drop_eq_getElem_cons hk, encS_2]; simp
theorem encAt_4 {l acc : List UInt8} {k H : Nat} (h : EncAt l k H 4 acc) (hk : k < l.length) : EncAt l (k + 1) (push8 H l[k]) 0 (acc ++ [ltr (push8 H l[k] / 64 % 64)] ++ [ltr (push8 H l[k] % 64)]) := by
  unfold EncAt at h ⊢; rw [h, List.drop_eq_getElem_cons hk, encS_4]; simp
theorem encAt_end0 {l acc : List UInt8} {H : Nat} (h : EncAt l l.length H 0 acc) : acc = enc l := by
  unfold EncAt at h; rw [h, List.drop_length]; simp [encS]
theorem encAt_end2 {l acc : List UInt8} {H : Nat} (h : EncAt l l.length H 2 acc) : acc ++ [ltr (H * 16 % 64)] = enc l := by
  unfold EncAt at h; rw [h, List.drop_length, encS_end2, show H * 16 % 4294967296 % 64 = H * 16 % 64 by omega]
theorem encAt_end4 {l acc : List UInt8} {H : Nat} (h : EncAt l l.length H 4 acc) : acc ++ [ltr (H * 4 % 64)] = enc l := by
  unfold EncAt at h; rw [h, List.drop_length, encS_end4, show H * 4 % 4294967296 % 64 = H * 4 % 64 by omega]

set_option maxHeartbeats 1000000 in
set_option maxRecDepth 100000 in
theorem encode_any (s : ByteArray) (hs : s.size ≤ 46912496117759) (w : World) :
    Calls Tryd.prog 18 #[.string s] w fun e w' => e = .returned (.string ⟨(enc s.data.toList).toArray⟩) ∧ Below w.heap.size w w' := by
  obtain ⟨i0, hi, hz0, hz1, hz2⟩ := info_parts Tryd.infoByte
  go_enter Tryd.func18, Tryd.ntmps18
  go_wp2_with (at_make; refine wpList_make_own _ rfl _ _ 26 rfl w.heap.size 5 i0 _ 1 Tryd.underlying26 hi hz0 hz1 _ _ _ (s.size / 3 * 4 + 3) rfl rfl (by omega) (by rw [hz2]; omega) (by unfold maxLen; omega) (Nat.le_refl _) ?_)
  intro w0 hown0 hg0
  have hb0 : Below w.heap.size w w0 := (Below.refl _ _).grown hg0 (Nat.le_refl _) (by simp)
  go_wp2
  go_loopw [3, 4, 5, 15] (fun v h b i wr => ∃ (k H bits : Nat) (acc : List UInt8), k ≤ s.size ∧ i = .int .i64 k ∧ h = .int .u32 H ∧ H < 4294967296 ∧ b = .int .i64 bits ∧ (bits = 0 ∨ bits = 2 ∨ bits = 4) ∧ Buf wr w.heap.size v acc ∧ acc.length ≤ 2 * k ∧ EncAt s.data.toList k H bits acc ∧ Below w.heap.size w wr) (fun _ _ _ i _ => s.size - (intOf i).toNat)
  case atStart => exact ⟨0, 0, 0, [], Nat.zero_le _, rfl, rfl, by decide, rfl, .inl rfl, hown0, Nat.zero_le _, (encS_enc _ 0).symm, hb0⟩
  case round =>
    obtain ⟨k, H, bts, acc, hk, rfl, rfl, hH, rfl, h024, hown, hal, hat, hb⟩ := hrel
    have HA := Lib.hid hat; clear hat
    have hbs := hb.size
    by_cases hlt : k < s.size
    · have hp := push8_lt H s[k]
      have ho := or_push8 H s[k]
      have p4 := and63 ((push8 H s[k] : Int) / 4) (by omega) (by omega)
      have p16 := and63 ((push8 H s[k] : Int) / 16) (by omega) (by omega)
      have p64 := and63 ((push8 H s[k] : Int) / 64) (by omega) (by omega)
      have p1 := and63 ((push8 H s[k] : Int)) (by omega) (by omega)
      rcases h024 with rfl | rfl | rfl
      · clear p16 p64 p1
        go_wp2
        refine wp_loop_rounds 2 ?_
        rw [rounds_succ]
        go_wp2_with (at_builtin; refine wpList_append_own _ rfl (.tmp 31) (.tmp 37) 26 rfl w.heap.size 5 i0 _ 1 1 Tryd.underlying26 hi hz0 hz1 hz2 rfl (by decide) _ _ _ rfl (World.ownsRow.alloc hown _) ⟨_, 0, none⟩ 1 1 [.int .u8 _] rfl rfl (new_cells _ #[_] _) (one_cell _) (by unfold maxLen; omega) (by omega) (by simp; omega) ?_)
        intro v' w1 hown' hg' _
        have hb1 : Below w.heap.size w w1 := (hb.alloc hbs _).grown hg' (by simp; omega) (fun j hj => (hown.lt j hj).1)
        go_wp2
        rw [rounds_succ]
        go_wp2
        go_roundw
        case rel => exact ⟨k + 1, push8 H s[k], 2, acc ++ [ltr (push8 H s[k] / 4 % 64)], by omega, by go_num, rfl, hp, rfl, .inr (.inl rfl), Buf.cut hown' (by simp) (cells_ltr _ _ _ (by omega) _), by simp; omega, encAt_0 HA.out hlt, hb1⟩
        case measure => simp [intOf]; omega
      · clear p4 p64 p1
        go_wp2
        refine wp_loop_rounds 2 ?_
        rw [rounds_succ]
        go_wp2_with (at_builtin; refine wpList_append_own _ rfl (.tmp 31) (.tmp 37) 26 rfl w.heap.size 5 i0 _ 1 1 Tryd.underlying26 hi hz0 hz1 hz2 rfl (by decide) _ _ _ rfl (World.ownsRow.alloc hown _) ⟨_, 0, none⟩ 1 1 [.int .u8 _] rfl rfl (new_cells _ #[_] _) (one_cell _) (by unfold maxLen; omega) (by omega) (by simp; omega) ?_)
        intro v' w1 hown' hg' _
        have hb1 : Below w.heap.size w w1 := (hb.alloc hbs _).grown hg' (by simp; omega) (fun j hj => (hown.lt j hj).1)
        go_wp2
        rw [rounds_succ]
        go_wp2
        go_roundw
        case rel => exact ⟨k + 1, push8 H s[k], 4, acc ++ [ltr (push8 H s[k] / 16 % 64)], by omega, by go_num, rfl, hp, rfl, .inr (.inr rfl), Buf.cut hown' (by simp) (cells_ltr _ _ _ (by omega) _), by simp; omega, encAt_2 HA.out hlt, hb1⟩
        case measure => simp [intOf]; omega
      · clear p4 p16
        go_wp2
        refine wp_loop_rounds 3 ?_
        rw [rounds_succ]
        go_wp2_with (at_builtin; refine wpList_append_own _ rfl (.tmp 31) (.tmp 37) 26 rfl w.heap.size 5 i0 _ 1 1 Tryd.underlying26 hi hz0 hz1 hz2 rfl (by decide) _ _ _ rfl (World.ownsRow.alloc hown _) ⟨_, 0, none⟩ 1 1 [.int .u8 _] rfl rfl (new_cells _ #[_] _) (one_cell _) (by unfold maxLen; omega) (by omega) (by simp; omega) ?_)
        intro v' w1 hown' hg' _
        have hb1 : Below w.heap.size w w1 := (hb.alloc hbs _).grown hg' (by simp; omega) (fun j hj => (hown.lt j hj).1)
        have hown1 : Buf w1 w.heap.size v' (acc ++ [ltr (push8 H s[k] / 64 % 64)]) := Buf.cut hown' (by simp) (cells_ltr _ _ _ (by omega) _)
        have hbs1 := hb1.size
        have hl1 : (acc ++ [ltr (push8 H s[k] / 64 % 64)]).length ≤ 2 * k + 1 := by simp; omega
        clear hown' hg'
        go_wp2
        rw [rounds_succ]
        go_wp2_with (at_builtin; refine wpList_append_own _ rfl (.tmp 31) (.tmp 37) 26 rfl w.heap.size 5 i0 _ 1 1 Tryd.underlying26 hi hz0 hz1 hz2 rfl (by decide) _ _ _ rfl (World.ownsRow.alloc hown1 _) ⟨_, 0, none⟩ 1 1 [.int .u8 _] rfl rfl (new_cells _ #[_] _) (one_cell _) (by unfold maxLen; omega) (by omega) (by simp; omega) ?_)
        intro v2 w2 hown' hg' _
        have hb2 : Below w.heap.size w w2 := (hb1.alloc hbs1 _).grown hg' (by simp; omega) (fun j hj => (hown1.lt j hj).1)
        go_wp2
        rw [rounds_succ]
        go_wp2
        go_roundw
        case rel => exact ⟨k + 1, push8 H s[k], 0, acc ++ [ltr (push8 H s[k] / 64 % 64)] ++ [ltr (push8 H s[k] % 64)], by omega, by go_num, rfl, hp, rfl, .inl rfl, Buf.cut hown' (by simp) (cells_ltr _ _ _ (by omega) _), by simp; omega, encAt_4 HA.out hlt, hb2⟩
        case measure => simp [intOf]; omega
    · have hke : k = s.size := by omega
      subst hke
      rcases h024 with rfl | rfl | rfl
      · have hcv := hown.text
        go_wp2
        go_ret
        exact ⟨ret_str (encAt_end0 HA.out), hb⟩
      · have q16 := and63 ((H : Int) * 16 % 4294967296) (by omega) (by omega)
        go_wp2_with (at_builtin; refine wpList_append_own _ rfl (.tmp 42) (.tmp 49) 26 rfl w.heap.size 5 i0 _ 1 1 Tryd.underlying26 hi hz0 hz1 hz2 rfl (by decide) _ _ _ rfl (World.ownsRow.alloc hown _) ⟨_, 0, none⟩ 1 1 [.int .u8 _] rfl rfl (new_cells _ #[_] _) (one_cell _) (by unfold maxLen; omega) (by omega) (by simp; omega) ?_)
        intro v' w1 hown' hg' _
        have hb1 : Below w.heap.size w w1 := (hb.alloc hbs _).grown hg' (by simp; omega) (fun j hj => (hown.lt j hj).1)
        have hcv := (Buf.cut (l := acc ++ [ltr (H * 16 % 64)]) hown' (by simp) (cells_ltr _ _ _ (by omega) _)).text
        go_wp2
        go_ret
        exact ⟨ret_str (encAt_end2 HA.out), hb1⟩
      · have q4 := and63 ((H : Int) * 4 % 4294967296) (by omega) (by omega)
        go_wp2_with (at_builtin; refine wpList_append_own _ rfl (.tmp 42) (.tmp 49) 26 rfl w.heap.size 5 i0 _ 1 1 Tryd.underlying26 hi hz0 hz1 hz2 rfl (by decide) _ _ _ rfl (World.ownsRow.alloc hown _) ⟨_, 0, none⟩ 1 1 [.int .u8 _] rfl rfl (new_cells _ #[_] _) (one_cell _) (by unfold maxLen; omega) (by omega) (by simp; omega) ?_)
        intro v' w1 hown' hg' _
        have hb1 : Below w.heap.size w w1 := (hb.alloc hbs _).grown hg' (by simp; omega) (fun j hj => (hown.lt j hj).1)
        have hcv := (Buf.cut (l := acc ++ [ltr (H * 4 % 64)]) hown' (by simp) (cells_ltr _ _ _ (by omega) _)).text
        go_wp2
        go_ret
        exact ⟨ret_str (encAt_end4 HA.out), hb1⟩
end Go.Proofs.YtdiljjoaihfloaaDoor
namespace Go.Proofs.YtdiljjoaihfloaaDoor
open Go.RowKit

theorem ix_any (c : UInt8) (w : World) :
    Calls Tryd.prog 24 #[.string ⟨#[65, 66, 67, 68, 69, 70, 71, 72, 73, 74, 75, 76, 77, 78, 79, 80, 81, 82, 83, 84, 85, 86, 87, 88, 89, 90, 97, 98, 99, 100, 101, 102, 103, 104, 105, 106, 107, 108, 109, 110, 111, 112, 113, 114, 115, 116, 117, 118, 119, 120, 121, 122, 48, 49, 50, 51, 52, 53, 54, 55, 56, 57, 45, 95]⟩, .int .u8 c.toNat] w fun e w' => e = .returned (.int .i64 (ix c)) ∧ w = w' := by
  refine (indexByte_any _ _ w).mono fun e w' ⟨he, hw⟩ => ⟨?_, hw⟩
  rw [he]
  refine ret_int ?_
  have : (c.toNat : Int).toNat.toUInt8 = c := by simp
  rw [this]; rfl

theorem push6_lt (H : Nat) (d : Nat) (hd : d < 64) : push6 H d < 4294967296 := by unfold push6; omega
theorem or_push6 (H : Nat) (d : Int) (h0 : 0 ≤ d) (h1 : d < 64) : bits .or .u32 ((H : Int) * 64 % 4294967296) d = (push6 H d.toNat : Int) := by
  rw [bits_join .u32 32 (by decide) (fun n h0 h1 => by rw [IntKind.wrap_u32]; omega) 6 _ _ (by omega) (by omega) (by omega) (by omega) (by omega) (by omega)]
  unfold push6; omega
def DecAt (l : List UInt8) (k : Nat) (H bits : Nat) (acc : List UInt8) : Prop := dec l = (decS H bits (l.drop k)).map (acc ++ ·)
theorem decAt_start (l : List UInt8) : DecAt l 0 0 0 [] := by unfold DecAt; rw [List.drop_zero, decS_dec]; simp
theorem decAt_bad {l acc : List UInt8} {k H bits : Nat} (h : DecAt l k H bits acc) (hk : k < l.length) (hc : ix l[k] < 0) : dec l = none := by
  unfold DecAt at h; rw [h, List.drop_eq_getElem_cons hk, decS, if_pos hc]; rfl
theorem decAt_0 {l acc : List UInt8} {k H : Nat} (h : DecAt l k H 0 acc) (hk : k < l.length) (hc : 0 ≤ ix l[k]) : DecAt l (k + 1) (push6 H (ix l[k]).toNat) 6 acc := by
  unfold DecAt at h ⊢; rw [h, List.drop_eq_getElem_cons hk, decS, if_neg (by omega), if_pos (by decide)]
theorem decAt_s {l acc : List UInt8} {k H bits : Nat} (h : DecAt l k H bits acc) (hb : 2 ≤ bits) (hk : k < l.length) (hc : 0 ≤ ix l[k]) :
    DecAt l (k + 1) (push6 H (ix l[k]).toNat) (bits - 2) (acc ++ [UInt8.ofNat (push6 H (ix l[k]).toNat / 2 ^ (bits - 2))]) := by
  unfold DecAt at h ⊢; rw [h, List.drop_eq_getElem_cons hk, decS, if_neg (by omega), if_neg (by omega), Option.map_map]; congr 1; funext x; simp
theorem decAt_end {l acc : List UInt8} {H bits : Nat} (h : DecAt l l.length H bits acc) (hb : bits < 6) (hm : H % 2 ^ bits = 0) : dec l = some acc := by
  unfold DecAt at h; rw [h, List.drop_length, decS, if_pos ⟨hb, hm⟩]; simp
theorem decAt_not {l acc : List UInt8} {H bits : Nat} (h : DecAt l l.length H bits acc) (hb : bits = 6 ∨ H % 2 ^ bits ≠ 0) : dec l = none := by
  unfold DecAt at h; rw [h, List.drop_length, decS, if_neg (by omega)]; rfl

/-- what Decode answers -/
def DecSays (l : List UInt8) (e : Ending) : Prop :=
  (∃ o, dec l = some o ∧ e = .returned (.tuple #[.string ⟨o.toArray⟩, .int .i64 0])) ∨ (dec l = none ∧ e = .returned (.tuple #[.string ⟨#[]⟩, .int .i64 2]))

set_option maxHeartbeats 1000000 in
set_option maxRecDepth 100000 in
theorem decode_says (s : ByteArray) (hs : s.size ≤ 46912496117759) (w : World) :
    Calls Tryd.prog 16 #[.string s] w fun e w' => DecSays s.data.toList e ∧ Below w.heap.size w w' := by
  obtain ⟨i0, hi, hz0, hz1, hz2⟩ := info_parts Tryd.infoByte
  go_enter Tryd.func16, Tryd.ntmps16
  go_wp2_with (at_make; refine wpList_make_own _ rfl _ _ 26 rfl w.heap.size 5 i0 _ 1 Tryd.underlying26 hi hz0 hz1 _ _ _ (s.size / 4 * 3 + 3) rfl rfl (by omega) (by rw [hz2]; omega) (by unfold maxLen; omega) (Nat.le_refl _) ?_)
  intro w0 hown0 hg0
  have hb0 : Below w.heap.size w w0 := (Below.refl _ _).grown hg0 (Nat.le_refl _) (by simp)
  go_wp2
  go_loopw [4, 5, 6, 17] (fun v h b i wr => ∃ (k H bits : Nat) (acc : List UInt8), k ≤ s.size ∧ i = .int .i64 k ∧ h = .int .u32 H ∧ H < 4294967296 ∧ b = .int .i64 bits ∧ (bits = 0 ∨ bits = 6 ∨ bits = 4 ∨ bits = 2) ∧ Buf wr w.heap.size v acc ∧ acc.length ≤ k ∧ DecAt s.data.toList k H bits acc ∧ Below w.heap.size w wr) (fun _ _ _ i _ => s.size - (intOf i).toNat)
  case atStart => exact ⟨0, 0, 0, [], Nat.zero_le _, rfl, rfl, by decide, rfl, .inl rfl, hown0, Nat.zero_le _, decAt_start _, hb0⟩
  case round =>
    obtain ⟨k, H, bts, acc, hk, rfl, rfl, hH, rfl, h0642, hown, hal, hat, hb⟩ := hrel
    have HA := Lib.hid hat; clear hat
    have hbs := hb.size
    by_cases hlt : k < s.size
    · by_cases hc : ix s[k] < 0
      · have HC := Lib.hid hc
        have HO := Lib.hid h0642; clear h0642
        go_wp2_with (go_at_call 24; refine (ix_any _ _).mono ?_; rintro e w' ⟨rfl, rfl⟩)
        go_ret2
        exact ⟨Or.inr ⟨decAt_bad HA.out hlt HC.out, rfl⟩, hb⟩
      · have hc : 0 ≤ ix s[k] := by omega
        have hix : ix s[k] < 64 := by rcases ix_cases s[k] with h | h <;> omega
        have HC := Lib.hid hc
        have hp := push6_lt H (ix s[k]).toNat (by omega)
        have ho := or_push6 H (ix s[k]) (by omega) hix
        rcases h0642 with rfl | rfl | rfl | rfl
        · go_wp2_with (go_at_call 24; refine (ix_any _ _).mono ?_; rintro e w' ⟨rfl, rfl⟩)
          go_roundw
          case rel => exact ⟨k + 1, push6 H (ix s[k]).toNat, 6, acc, by omega, by go_num, rfl, hp, rfl, .inr (.inl rfl), hown, by omega, decAt_0 HA.out hlt HC.out, hb⟩
          case measure => simp [intOf]; omega
        · go_wp2_with (first
            | (go_at_call 24; refine (ix_any _ _).mono ?_; rintro e w' ⟨rfl, rfl⟩)
            | (at_builtin; refine wpList_append_own _ rfl (.tmp 37) (.tmp 42) 26 rfl w.heap.size 5 i0 _ 1 1 Tryd.underlying26 hi hz0 hz1 hz2 rfl (by decide) _ _ _ rfl (World.ownsRow.alloc hown _) ⟨_, 0, none⟩ 1 1 [.int .u8 _] rfl rfl (new_cells _ #[_] _) (one_cell _) (by unfold maxLen; omega) (by omega) (by simp; omega) ?_))
          intro v' w1 hown' hg' _
          have hb1 : Below w.heap.size w w1 := (hb.alloc hbs _).grown hg' (by simp; omega) (fun j hj => (hown.lt j hj).1)
          go_wp2
          go_roundw
          case rel => exact ⟨k + 1, push6 H (ix s[k]).toNat, 4, acc ++ [UInt8.ofNat (push6 H (ix s[k]).toNat / 16)], by omega, by go_num, rfl, hp, rfl, .inr (.inr (.inl rfl)), Buf.cut hown' (by simp) (cells_byte _ (push6 H (ix s[k]).toNat / 16) _ _ (by omega) rfl), by simp; omega, decAt_s HA.out (by decide) hlt HC.out, hb1⟩
          case measure => simp [intOf]; omega
        · go_wp2_with (first
            | (go_at_call 24; refine (ix_any _ _).mono ?_; rintro e w' ⟨rfl, rfl⟩)
            | (at_builtin; refine wpList_append_own _ rfl (.tmp 37) (.tmp 42) 26 rfl w.heap.size 5 i0 _ 1 1 Tryd.underlying26 hi hz0 hz1 hz2 rfl (by decide) _ _ _ rfl (World.ownsRow.alloc hown _) ⟨_, 0, none⟩ 1 1 [.int .u8 _] rfl rfl (new_cells _ #[_] _) (one_cell _) (by unfold maxLen; omega) (by omega) (by simp; omega) ?_))
          intro v' w1 hown' hg' _
          have hb1 : Below w.heap.size w w1 := (hb.alloc hbs _).grown hg' (by simp; omega) (fun j hj => (hown.lt j hj).1)
          go_wp2
          go_roundw
          case rel => exact ⟨k + 1, push6 H (ix s[k]).toNat, 2, acc ++ [UInt8.ofNat (push6 H (ix s[k]).toNat / 4)], by omega, by go_num, rfl, hp, rfl, .inr (.inr (.inr rfl)), Buf.cut hown' (by simp) (cells_byte _ (push6 H (ix s[k]).toNat / 4) _ _ (by omega) rfl), by simp; omega, decAt_s HA.out (by decide) hlt HC.out, hb1⟩
          case measure => simp [intOf]; omega
        · go_wp2_with (first
            | (go_at_call 24; refine (ix_any _ _).mono ?_; rintro e w' ⟨rfl, rfl⟩)
            | (at_builtin; refine wpList_append_own _ rfl (.tmp 37) (.tmp 42) 26 rfl w.heap.size 5 i0 _ 1 1 Tryd.underlying26 hi hz0 hz1 hz2 rfl (by decide) _ _ _ rfl (World.ownsRow.alloc hown _) ⟨_, 0, none⟩ 1 1 [.int .u8 _] rfl rfl (new_cells _ #[_] _) (one_cell _) (by unfold maxLen; omega) (by omega) (by simp; omega) ?_))
          intro v' w1 hown' hg' _
          have hb1 : Below w.heap.size w w1 := (hb.alloc hbs _).grown hg' (by simp; omega) (fun j hj => (hown.lt j hj).1)
          go_wp2
          go_roundw
          case rel => exact ⟨k + 1, push6 H (ix s[k]).toNat, 0, acc ++ [UInt8.ofNat (push6 H (ix s[k]).toNat / 1)], by omega, by go_num, rfl, hp, rfl, .inl rfl, Buf.cut hown' (by simp) (cells_byte _ (push6 H (ix s[k]).toNat / 1) _ _ (by omega) rfl), by simp; omega, decAt_s HA.out (by decide) hlt HC.out, hb1⟩
          case measure => simp [intOf]; omega
    · have hke : k = s.size := by omega
      subst hke
      have hcv := hown.text
      rcases h0642 with rfl | rfl | rfl | rfl
      · have hq : bits .and .u32 (H : Int) 0 = 0 := by have := and_mask H (by omega) (by omega) 0 (by decide); simpa using this
        go_wp2
        go_ret2
        exact ⟨Or.inl ⟨acc, decAt_end HA.out (by decide) (by omega), rfl⟩, hb⟩
      · go_wp2
        go_ret2
        exact ⟨Or.inr ⟨decAt_not HA.out (.inl rfl), rfl⟩, hb⟩
      · have hq : bits .and .u32 (H : Int) 15 = (H : Int) % 16 := and_mask H (by omega) (by omega) 4 (by decide)
        by_cases hm : H % 16 = 0
        · have ht : ((H : Int) % 16 != 0) = false := by simp; omega
          have HM := Lib.hid hm; clear hm
          go_wp2
          go_ret2
          exact ⟨Or.inl ⟨acc, decAt_end HA.out (by decide) HM.out, rfl⟩, hb⟩
        · have ht : ((H : Int) % 16 != 0) = true := by simp; omega
          have HM := Lib.hid hm; clear hm
          go_wp2
          go_ret2
          exact ⟨Or.inr ⟨decAt_not HA.out (.inr HM.out), rfl⟩, hb⟩
      · have hq : bits .and .u32 (H : Int) 3 = (H : Int) % 4 := and_mask H (by omega) (by omega) 2 (by decide)
        by_cases hm : H % 4 = 0
        · have ht : ((H : Int) % 4 != 0) = false := by simp; omega
          have HM := Lib.hid hm; clear hm
          go_wp2
          go_ret2
          exact ⟨Or.inl ⟨acc, decAt_end HA.out (by decide) HM.out, rfl⟩, hb⟩
        · have ht : ((H : Int) % 4 != 0) = true := by simp; omega
          have HM := Lib.hid hm; clear hm
          go_wp2
          go_ret2
          exact ⟨Or.inr ⟨decAt_not HA.out (.inr HM.out), rfl⟩, hb⟩
end Go.Proofs.YtdiljjoaihfloaaDoor
namespace Go.Proofs.YtdiljjoaihfloaaDoor
open Go.RowKit

def ltrI (n : Int) : Int := ((ltr n.toNat).toNat : Int)
theorem ltrI_of {n : Int} {m : Nat} (h : n = m) : ltrI n = ((ltr m).toNat : Int) := by subst h; rfl
theorem sixtyI_any (n : Int) (h0 : 0 ≤ n) (h1 : n < 64) (w : World) :
    Calls Tryd.prog 20 #[.int .i64 n] w fun e w' => e = .returned (.int .u8 (ltrI n)) ∧ w = w' := sixty_any n h0 h1 w
def RefAt (l : List UInt8) (k : Nat) (acc : List UInt8) : Prop := enc l = acc ++ enc (l.drop k)

theorem refAt_end {l acc : List UInt8} {k : Nat} (h : RefAt l k acc) (hk : l.length ≤ k) : acc = enc l := by
  unfold RefAt at h; rw [h, List.drop_eq_nil_of_le hk]; simp [enc]
theorem refAt_3 {l acc : List UInt8} {k : Nat} (h : RefAt l k acc) (hk : k + 2 < l.length) : RefAt l (k + 3) (acc ++ chunk (l[k].toNat * 65536 + l[k + 1].toNat * 256 + l[k + 2].toNat)) := by
  unfold RefAt at h ⊢
  rw [h, List.drop_eq_getElem_cons (show k < l.length by omega), List.drop_eq_getElem_cons (show k + 1 < l.length by omega), List.drop_eq_getElem_cons (show k + 2 < l.length by omega), enc, List.append_assoc]
theorem refAt_2 {l acc : List UInt8} {k : Nat} (h : RefAt l k acc) (hk : k + 2 = l.length) : RefAt l (k + 3) (acc ++ (chunk (l[k].toNat * 65536 + l[k + 1].toNat * 256)).take 3) := by
  unfold RefAt at h ⊢
  rw [h, List.drop_eq_getElem_cons (show k < l.length by omega), List.drop_eq_getElem_cons (show k + 1 < l.length by omega), List.drop_eq_nil_of_le (show l.length ≤ k + 1 + 1 by omega), List.drop_eq_nil_of_le (show l.length ≤ k + 3 by omega)]
  simp [enc]
theorem refAt_1 {l acc : List UInt8} {k : Nat} (h : RefAt l k acc) (hk : k + 1 = l.length) : RefAt l (k + 3) (acc ++ (chunk (l[k].toNat * 65536)).take 2) := by
  unfold RefAt at h ⊢
  rw [h, List.drop_eq_getElem_cons (show k < l.length by omega), List.drop_eq_nil_of_le (show l.length ≤ k + 1 by omega), List.drop_eq_nil_of_le (show l.length ≤ k + 3 by omega)]
  simp [enc]

theorem four_ltr (l : List UInt8) (V : Nat) (v : Int) (h : v = V) : cells l ++ [Value.int .u8 (ltrI (v / 262144)), .int .u8 (ltrI (v / 4096 % 64)), .int .u8 (ltrI (v / 64 % 64)), .int .u8 (ltrI (v % 64))] = cells (l ++ chunk V) := by
  subst h
  rw [cells_app, ltrI_of (m := V / 262144) (by omega), ltrI_of (m := V / 4096 % 64) (by omega), ltrI_of (m := V / 64 % 64) (by omega), ltrI_of (m := V % 64) (by omega)]; rfl
theorem three_ltr (l : List UInt8) (V : Nat) (v : Int) (h : v = V) : cells l ++ [Value.int .u8 (ltrI (v / 262144)), .int .u8 (ltrI (v / 4096 % 64)), .int .u8 (ltrI (v / 64 % 64))] = cells (l ++ (chunk V).take 3) := by
  subst h
  rw [cells_app, ltrI_of (m := V / 262144) (by omega), ltrI_of (m := V / 4096 % 64) (by omega), ltrI_of (m := V / 64 % 64) (by omega)]; rfl
theorem two_ltr (l : List UInt8) (V : Nat) (v : Int) (h : v = V) : cells l ++ [Value.int .u8 (ltrI (v / 262144)), .int .u8 (ltrI (v / 4096 % 64))] = cells (l ++ (chunk V).take 2) := by
  subst h
  rw [cells_app, ltrI_of (m := V / 262144) (by omega), ltrI_of (m := V / 4096 % 64) (by omega)]; rfl

set_option maxHeartbeats 1000000 in
set_option maxRecDepth 100000 in
theorem refB64_any (s : ByteArray) (hs : s.size ≤ 46912496117759) (w : World) :
    Calls Tryd.prog 11 #[.string s] w fun e w' => e = .returned (.string ⟨(enc s.data.toList).toArray⟩) ∧ Below w.heap.size w w' := by
  obtain ⟨i0, hi, hz0, hz1, hz2⟩ := info_parts Tryd.infoByte
  go_enter Tryd.func11, Tryd.ntmps11
  go_wp2
  go_loopw [3, 4] (fun v i wr => ∃ (k : Nat) (acc : List UInt8), k ≤ s.size + 2 ∧ i = .int .i64 k ∧ Buf wr w.heap.size v acc ∧ acc.length ≤ 2 * k ∧ RefAt s.data.toList k acc ∧ Below w.heap.size w wr) (fun _ i _ => s.size - (intOf i).toNat)
  case atStart => exact ⟨0, [], Nat.zero_le _, rfl, World.ownsRow_nil _ _ _ _, Nat.zero_le _, rfl, Below.refl _ _⟩
  case round =>
    obtain ⟨k, acc, hk, rfl, hown, hal, hat, hb⟩ := hrel
    have HA := Lib.hid hat; clear hat
    have hbs := hb.size
    by_cases hlt : k < s.size
    · by_cases h3 : k + 2 < s.size
      · have ha := s[k].toNat_lt
        have hb' := s[k + 1].toNat_lt
        have hc := s[k + 2].toNat_lt
        go_wp2
        refine wp_loop_rounds 4 ?_
        rw [rounds_succ]
        go_wp2
        rw [rounds_succ]
        go_wp2
        rw [rounds_succ]
        go_wp2
        rw [rounds_succ]
        go_wp2_with (first
          | (go_at_call 20; refine (sixtyI_any _ (by omega) (by omega) _).mono ?_; rintro e w' ⟨rfl, rfl⟩)
          | (at_builtin; refine wpList_append_own _ rfl (.tmp 52) (.tmp 56) 26 rfl w.heap.size 5 i0 _ 1 1 Tryd.underlying26 hi hz0 hz1 hz2 rfl (by decide) _ _ _ rfl (World.ownsRow.alloc hown _) ⟨_, 0, none⟩ 4 4 [.int .u8 _, .int .u8 _, .int .u8 _, .int .u8 _] rfl rfl (new_cells_take _ #[_, _, _, _] _ 4) (four_cells _ _ _ _) (by unfold maxLen; omega) (by omega) (by simp; omega) ?_))
        intro v' w1 hown' hg' _
        have hb1 : Below w.heap.size w w1 := (hb.alloc hbs _).grown hg' (by simp; omega) (fun j hj => (hown.lt j hj).1)
        go_wp2
        go_roundw
        case rel => exact ⟨k + 3, _, by omega, by go_num, Buf.cut hown' (by simp [chunk]) (four_ltr _ (s[k].toNat * 65536 + s[k + 1].toNat * 256 + s[k + 2].toNat) _ (by omega)), by simp [chunk]; omega, refAt_3 HA.out h3, hb1⟩
        case measure => simp [intOf]; omega
      · by_cases h2 : k + 1 < s.size
        · have ha := s[k].toNat_lt
          have hb' := s[k + 1].toNat_lt
          go_wp2
          refine wp_loop_rounds 4 ?_
          rw [rounds_succ]
          go_wp2
          rw [rounds_succ]
          go_wp2
          rw [rounds_succ]
          go_wp2
          rw [rounds_succ]
          go_wp2_with (first
            | (go_at_call 20; refine (sixtyI_any _ (by omega) (by omega) _).mono ?_; rintro e w' ⟨rfl, rfl⟩)
            | (at_builtin; refine wpList_append_own _ rfl (.tmp 52) (.tmp 56) 26 rfl w.heap.size 5 i0 _ 1 1 Tryd.underlying26 hi hz0 hz1 hz2 rfl (by decide) _ _ _ rfl (World.ownsRow.alloc hown _) ⟨_, 0, none⟩ 3 4 [.int .u8 _, .int .u8 _, .int .u8 _] rfl rfl (new_cells_take _ #[_, _, _, _] _ 3) (three_cells _ _ _) (by unfold maxLen; omega) (by omega) (by simp; omega) ?_))
          intro v' w1 hown' hg' _
          have hb1 : Below w.heap.size w w1 := (hb.alloc hbs _).grown hg' (by simp; omega) (fun j hj => (hown.lt j hj).1)
          go_wp2
          go_roundw
          case rel => exact ⟨k + 3, _, by omega, by go_num, Buf.cut hown' (by simp [chunk]) (three_ltr _ (s[k].toNat * 65536 + s[k + 1].toNat * 256) _ (by omega)), by simp [chunk]; omega, refAt_2 HA.out (by show _ = s.size; omega), hb1⟩
          case measure => simp [intOf]; omega
        · have ha := s[k].toNat_lt
          go_wp2
          refine wp_loop_rounds 4 ?_
          rw [rounds_succ]
          go_wp2
          rw [rounds_succ]
          go_wp2
          rw [rounds_succ]
          go_wp2
          rw [rounds_succ]
          go_wp2_with (first
            | (go_at_call 20; refine (sixtyI_any _ (by omega) (by omega) _).mono ?_; rintro e w' ⟨rfl, rfl⟩)
            | (at_builtin; refine wpList_append_own _ rfl (.tmp 52) (.tmp 56) 26 rfl w.heap.size 5 i0 _ 1 1 Tryd.underlying26 hi hz0 hz1 hz2 rfl (by decide) _ _ _ rfl (World.ownsRow.alloc hown _) ⟨_, 0, none⟩ 2 4 [.int .u8 _, .int .u8 _] rfl rfl (new_cells_take _ #[_, _, _, _] _ 2) (two_cells _ _) (by unfold maxLen; omega) (by omega) (by simp; omega) ?_))
          intro v' w1 hown' hg' _
          have hb1 : Below w.heap.size w w1 := (hb.alloc hbs _).grown hg' (by simp; omega) (fun j hj => (hown.lt j hj).1)
          go_wp2
          go_roundw
          case rel => exact ⟨k + 3, _, by omega, by go_num, Buf.cut hown' (by simp [chunk]) (two_ltr _ (s[k].toNat * 65536) _ (by omega)), by simp [chunk]; omega, refAt_1 HA.out (by show _ = s.size; omega), hb1⟩
          case measure => simp [intOf]; omega
    · have hcv := hown.text
      go_wp2
      go_ret
      exact ⟨ret_str (refAt_end HA.out (by show s.size ≤ k; omega)), hb⟩
end Go.Proofs.YtdiljjoaihfloaaDoor
namespace Go.Proofs.YtdiljjoaihfloaaDoor
open Go.RowKit

theorem sixtyN_quiet (j : Nat) (h : j < 64) (w : World) :
    Calls Tryd.prog 20 #[.int .i64 j] w fun e w' => e = .returned (.int .u8 ((ltr j).toNat : Int)) ∧ w' = w := (sixty_any j (by omega) (by omega) w).mono fun _ _ h => ⟨h.1, h.2.symm⟩

def UnAt (l : List UInt8) (k : Nat) (v n : Nat) (acc : List UInt8) : Prop := unS 0 0 l = (unS v n (l.drop k)).map (acc ++ ·)
theorem unAt_start (l : List UInt8) : UnAt l 0 0 0 [] := by unfold UnAt; simp
theorem unAt_bad {l acc : List UInt8} {k v n : Nat} (h : UnAt l k v n acc) (hk : k < l.length) (hc : ix l[k] < 0) : unS 0 0 l = none := by
  unfold UnAt at h; rw [h, List.drop_eq_getElem_cons hk, unS, if_pos hc]; rfl
theorem unAt_0 {l acc : List UInt8} {k v : Nat} (h : UnAt l k v 0 acc) (hk : k < l.length) (hc : 0 ≤ ix l[k]) : UnAt l (k + 1) (v * 64 + (ix l[k]).toNat) 6 acc := by
  unfold UnAt at h ⊢; rw [h, List.drop_eq_getElem_cons hk, unS, if_neg (by omega), if_pos (by decide)]
theorem unAt_s {l acc : List UInt8} {k v n : Nat} (h : UnAt l k v n acc) (hb : 2 ≤ n) (hk : k < l.length) (hc : 0 ≤ ix l[k]) :
    UnAt l (k + 1) ((v * 64 + (ix l[k]).toNat) % 2 ^ (n - 2)) (n - 2) (acc ++ [UInt8.ofNat ((v * 64 + (ix l[k]).toNat) / 2 ^ (n - 2))]) := by
  unfold UnAt at h ⊢; rw [h, List.drop_eq_getElem_cons hk, unS, if_neg (by omega), if_neg (by omega), Option.map_map]; congr 1; funext x; simp
theorem unAt_end {l acc : List UInt8} {v n : Nat} (h : UnAt l l.length v n acc) : unS 0 0 l = some acc := by
  unfold UnAt at h; rw [h, List.drop_length, unS]; simp

/-- what UnB64 answers -/
def UnSays (l : List UInt8) (e : Ending) : Prop :=
  (∃ o, unS 0 0 l = some o ∧ e = .returned (.tuple #[.string ⟨o.toArray⟩, .bool (decide (enc o = l))])) ∨ (unS 0 0 l = none ∧ e = .returned (.tuple #[.string ⟨#[]⟩, .bool false]))

set_option maxHeartbeats 2000000 in
set_option maxRecDepth 100000 in
theorem refUn_says (s : ByteArray) (hs : s.size ≤ 46912496117759) (w : World) :
    Calls Tryd.prog 17 #[.string s] w fun e w' => UnSays s.data.toList e ∧ Below w.heap.size w w' := by
  obtain ⟨i0, hi, hz0, hz1, hz2⟩ := info_parts Tryd.infoByte
  go_enter Tryd.func17, Tryd.ntmps17
  go_wp2
  go_loopw [4, 5, 6, 7] (fun o v n i wr => ∃ (k V N : Nat) (acc : List UInt8), k ≤ s.size ∧ i = .int .i64 k ∧ v = .int .i64 V ∧ V < 2 ^ N ∧ n = .int .i64 N ∧ (N = 0 ∨ N = 6 ∨ N = 4 ∨ N = 2) ∧ Buf wr w.heap.size o acc ∧ acc.length ≤ k ∧ UnAt s.data.toList k V N acc ∧ Below w.heap.size w wr) (fun _ _ _ i _ => s.size - (intOf i).toNat)
  case atStart => exact ⟨0, 0, 0, [], Nat.zero_le _, rfl, rfl, by decide, rfl, .inl rfl, World.ownsRow_nil _ _ _ _, Nat.zero_le _, unAt_start _, Below.refl _ _⟩
  case round =>
    obtain ⟨k, V, N, acc, hk, rfl, rfl, hV, rfl, h0642, hown, hal, hat, hb⟩ := hrel
    have HA := Lib.hid hat; clear hat
    have HO := Lib.hid h0642; clear h0642
    by_cases hlt : k < s.size
    · go_wp2
      go_loopw [8, 9] (fun d j wx => ∃ jj : Nat, jj ≤ 64 ∧ j = .int .i64 jj ∧ d = .int .i64 (ixTo s[k] jj) ∧ Buf wx w.heap.size u4 acc ∧ Below w.heap.size w wx) (fun _ j _ => 64 - (intOf j).toNat)
      case atStart => exact ⟨0, Nat.zero_le _, rfl, rfl, hown, hb⟩
      case round =>
        obtain ⟨jj, hj, rfl, rfl, hownx, hbx⟩ := hrel
        have hbsx := hbx.size
        by_cases hlj : jj < 64
        · by_cases hc : (ltr jj).toNat = s[k].toNat
          · have c1 : (((ltr jj).toNat : Int) == (s[k].toNat : Int)) = true := by simp; omega
            have hx : ixTo s[k] (jj + 1) = jj := by rw [ixTo, if_pos hc]
            have HX := Lib.hid hx; clear hx hc
            go_wp2
            go_quiet ((go_at_call 20; exact Calls.quiet_of_same (sixtyN_quiet _ hlj _)))
            go_wp2
            go_roundw
            case rel => exact ⟨jj + 1, by omega, by go_num, int_eq HX.out.symm, hownx, ⟨hbx.os, hbx.tape, hbx.output, hbx.size, hbx.block⟩⟩
            case measure => simp [intOf]; omega
          · have c1 : (((ltr jj).toNat : Int) == (s[k].toNat : Int)) = false := by simp; omega
            have hx : ixTo s[k] (jj + 1) = ixTo s[k] jj := by rw [ixTo, if_neg hc]
            have HX := Lib.hid hx; clear hx hc
            go_wp2
            go_quiet ((go_at_call 20; exact Calls.quiet_of_same (sixtyN_quiet _ hlj _)))
            go_wp2
            go_roundw
            case rel => exact ⟨jj + 1, by omega, by go_num, int_eq HX.out.symm, hownx, ⟨hbx.os, hbx.tape, hbx.output, hbx.size, hbx.block⟩⟩
            case measure => simp [intOf]; omega
        · have hj64 : jj = 64 := by omega
          subst hj64
          rw [ixTo_ix]
          by_cases hc : ix s[k] < 0
          · have HC := Lib.hid hc
            go_wp2
            go_ret2
            exact ⟨Or.inr ⟨unAt_bad HA.out hlt HC.out, rfl⟩, hbx⟩
          · have hc : 0 ≤ ix s[k] := by omega
            have hix : ix s[k] < 64 := by rcases ix_cases s[k] with h | h <;> omega
            have HC := Lib.hid hc
            have h0642 := HO.out
            rcases h0642 with rfl | rfl | rfl | rfl
            · go_wp2
              go_roundw
              case rel => exact ⟨k + 1, V * 64 + (ix s[k]).toNat, 6, acc, by omega, by go_num, int_eq (by omega), by omega, rfl, .inr (.inl rfl), hownx, by omega, unAt_0 HA.out hlt HC.out, hbx⟩
              case measure => simp [intOf]; omega
            · go_wp2_with (at_builtin; refine wpList_append_own _ rfl (.tmp 39) (.tmp 45) 26 rfl w.heap.size 5 i0 _ 1 1 Tryd.underlying26 hi hz0 hz1 hz2 rfl (by decide) _ _ _ rfl (World.ownsRow.alloc hownx _) ⟨_, 0, none⟩ 1 1 [.int .u8 _] rfl rfl (new_cells _ #[_] _) (one_cell _) (by unfold maxLen; omega) (by omega) (by simp; omega) ?_)
              intro v' w1 hown' hg' _
              have hb1 : Below w.heap.size w w1 := (hbx.alloc hbsx _).grown hg' (by simp; omega) (fun j hj => (hownx.lt j hj).1)
              go_wp2
              go_roundw
              case rel => exact ⟨k + 1, (V * 64 + (ix s[k]).toNat) % 16, 4, acc ++ [UInt8.ofNat ((V * 64 + (ix s[k]).toNat) / 16)], by omega, by go_num, int_eq (by omega), by omega, rfl, .inr (.inr (.inl rfl)), Buf.cut hown' (by simp) (cells_byte _ ((V * 64 + (ix s[k]).toNat) / 16) _ _ (by omega) rfl), by simp; omega, unAt_s HA.out (by decide) hlt HC.out, hb1⟩
              case measure => simp [intOf]; omega
            · go_wp2_with (at_builtin; refine wpList_append_own _ rfl (.tmp 39) (.tmp 45) 26 rfl w.heap.size 5 i0 _ 1 1 Tryd.underlying26 hi hz0 hz1 hz2 rfl (by decide) _ _ _ rfl (World.ownsRow.alloc hownx _) ⟨_, 0, none⟩ 1 1 [.int .u8 _] rfl rfl (new_cells _ #[_] _) (one_cell _) (by unfold maxLen; omega) (by omega) (by simp; omega) ?_)
              intro v' w1 hown' hg' _
              have hb1 : Below w.heap.size w w1 := (hbx.alloc hbsx _).grown hg' (by simp; omega) (fun j hj => (hownx.lt j hj).1)
              go_wp2
              go_roundw
              case rel => exact ⟨k + 1, (V * 64 + (ix s[k]).toNat) % 4, 2, acc ++ [UInt8.ofNat ((V * 64 + (ix s[k]).toNat) / 4)], by omega, by go_num, int_eq (by omega), by omega, rfl, .inr (.inr (.inr rfl)), Buf.cut hown' (by simp) (cells_byte _ ((V * 64 + (ix s[k]).toNat) / 4) _ _ (by omega) rfl), by simp; omega, unAt_s HA.out (by decide) hlt HC.out, hb1⟩
              case measure => simp [intOf]; omega
            · go_wp2_with (at_builtin; refine wpList_append_own _ rfl (.tmp 39) (.tmp 45) 26 rfl w.heap.size 5 i0 _ 1 1 Tryd.underlying26 hi hz0 hz1 hz2 rfl (by decide) _ _ _ rfl (World.ownsRow.alloc hownx _) ⟨_, 0, none⟩ 1 1 [.int .u8 _] rfl rfl (new_cells _ #[_] _) (one_cell _) (by unfold maxLen; omega) (by omega) (by simp; omega) ?_)
              intro v' w1 hown' hg' _
              have hb1 : Below w.heap.size w w1 := (hbx.alloc hbsx _).grown hg' (by simp; omega) (fun j hj => (hownx.lt j hj).1)
              go_wp2
              go_roundw
              case rel => exact ⟨k + 1, (V * 64 + (ix s[k]).toNat) % 1, 0, acc ++ [UInt8.ofNat ((V * 64 + (ix s[k]).toNat) / 1)], by omega, by go_num, int_eq (by omega), by omega, rfl, .inl rfl, Buf.cut hown' (by simp) (cells_byte _ ((V * 64 + (ix s[k]).toNat) / 1) _ _ (by omega) rfl), by simp; omega, unAt_s HA.out (by decide) hlt HC.out, hb1⟩
              case measure => simp [intOf]; omega
    · have hke : k = s.size := by omega
      subst hke
      have hcv := hown.text
      have hbs := hb.size
      have hlen : (ByteArray.mk acc.toArray).size ≤ 46912496117759 := by show acc.length ≤ _; omega
      have hownd : Buf wr.drew w.heap.size u4 acc := hown
      go_wp2_with fail
      go_region_held3 (fun w' => (convert 26 9 u4).run Tryd.prog w' = .ok (.string ⟨acc.toArray⟩) w') (first | exact hcv | exact hownd.text | exact (hownd.below (by assumption)).text) (first | (go_at_call 11; refine (refB64_any _ hlen _).mono ?_; rintro e w2 ⟨rfl, hb2⟩))
      go_wp2
      go_ret2
      refine ⟨Or.inl ⟨acc, unAt_end HA.out, ?_⟩, hb.drew.trans (hb2.mono hbs)⟩
      exact ret_sb (by rw [Lib.toList_data, Bool.eq_iff_iff]; simp)
end Go.Proofs.YtdiljjoaihfloaaDoor
namespace Go.Proofs.YtdiljjoaihfloaaDoor
open Go.RowKit

set_option maxRecDepth 100000 in
set_option maxHeartbeats 2000000 in
theorem refShift_loop {x0 x1 x2 x3 x4 x5 x6 x7 x8 x9 x10 x11 x12 x13 x15 x16 x17 x19 x20 x21 x22 x23 x24 x25 x26 x27 x28 x29 x30 x31 x32 x33 x34 x35 x36 x37 x38 x39 x40 x41 x42 x43 x44 x45 x46 x47 x48 x49 x50 x51 x52 x53 x54 x55 x56 x57 x58 x59 x60 x61 x62 x63 x64 x65 x66 x67 x68 x69 x70 x71 x72 x73 x74 x75 x76 x77 x78 x79 x80 x81 x82 x83 x84 x85 x86 x87 x88 x89 x90 x91 x92 x93 x94 x95 x96 x97 x98 x99 x100 x101 x102 x103 x104 x105 x106 x107 x108 x109 x110 x111 x112 x113 x114 x115 x116 x117 x118 x119 x120 x121 x122 x123 x124 x125 x126 x127 x128 x129 x130 x131 x132 x133 x134 x135 x136 x137 x138 x139 x140 x141 x142 x143 x144 x145 x146 x147 x148 x149 x150 x151 x152 x153 x154 x155 x156 x157 x158 x159 x160 x161 x162 x163 x164 x165 x166 x167 x168 x169 x170 x171 x172 x173 x174 x175 x176 x177 x178 x179 x180 x181 x182 x183 x184 x185 x186 x187 x188 x189 x190 x191 x192 x193 x194 x195 x196 x197 x198 x199 x200 x201 x202 x203 x204 x205 x206 x207 x208 x209 x210 x211 x212 x213 x214 x215 x216 x217 x218 x219 x220 x221 x222 x223 x224 x225 x226 x227 x228 x229 x230 x231 x232 x233 x234 x235 x236 x237 x238 x239 x240 x241 x242 x243 x244 x245 x246 x247 x248 x249 x250 x251 x252 x253 x254 x255 x256 x257 x258 x259 x260 x261 x262 x263 x264 x265 x266 x267 x268 x269 x270 x271 x272 x273 x274 x275 x276 : Value} (X : World) (s : S8) (q : Nat) (Q : Exit → Act → World → Prop)
    (hexit : ∀ (y18 y217 y218 y219 y220 y221 y222 y223 y224 y225 y226 : Value), Q (.exit 10) ⟨#[x0, x1, x2, x3, x4, x5, x6, x7, x8, x9, x10, x11, x12, x13, .pointer (some ⟨X.heap.size, 0, none⟩), x15, x16, x17, y18, x19, x20, x21, x22, x23, x24, x25, x26, x27, x28, x29, x30, x31, x32, x33, x34, x35, x36, x37, x38, x39, x40, x41, x42, x43, x44, x45, x46, x47, x48, x49, x50, x51, x52, x53, x54, x55, x56, x57, x58, x59, x60, x61, x62, x63, x64, x65, x66, x67, x68, x69, x70, x71, x72, x73, x74, x75, x76, x77, x78, x79, x80, x81, x82, x83, x84, x85, x86, x87, x88, x89, x90, x91, x92, x93, x94, x95, x96, x97, x98, x99, x100, x101, x102, x103, x104, x105, x106, x107, x108, x109, x110, x111, x112, x113, x114, x115, x116, x117, x118, x119, x120, x121, x122, x123, x124, x125, x126, x127, x128, x129, x130, x131, x132, x133, x134, x135, x136, x137, x138, x139, x140, x141, x142, x143, x144, x145, x146, x147, x148, x149, x150, x151, x152, x153, x154, x155, x156, x157, x158, x159, x160, x161, x162, x163, x164, x165, x166, x167, x168, x169, x170, x171, x172, x173, x174, x175, x176, x177, x178, x179, x180, x181, x182, x183, x184, x185, x186, x187, x188, x189, x190, x191, x192, x193, x194, x195, x196, x197, x198, x199, x200, x201, x202, x203, x204, x205, x206, x207, x208, x209, x210, x211, x212, x213, x214, x215, x216, y217, y218, y219, y220, y221, y222, y223, y224, y225, y226, x227, x228, x229, x230, x231, x232, x233, x234, x235, x236, x237, x238, x239, x240, x241, x242, x243, x244, x245, x246, x247, x248, x249, x250, x251, x252, x253, x254, x255, x256, x257, x258, x259, x260, x261, x262, x263, x264, x265, x266, x267, x268, x269, x270, x271, x272, x273, x274, x275, x276], []⟩ ((X.alloc (.cells (eightC (shiftF s 0)) 37)).drewN q)) :
    Code.wp Tryd.prog (refLoop 31) Q ⟨#[x0, x1, x2, x3, x4, x5, x6, x7, x8, x9, x10, x11, x12, x13, .pointer (some ⟨X.heap.size, 0, none⟩), x15, x16, x17, .int .i64 7, x19, x20, x21, x22, x23, x24, x25, x26, x27, x28, x29, x30, x31, x32, x33, x34, x35, x36, x37, x38, x39, x40, x41, x42, x43, x44, x45, x46, x47, x48, x49, x50, x51, x52, x53, x54, x55, x56, x57, x58, x59, x60, x61, x62, x63, x64, x65, x66, x67, x68, x69, x70, x71, x72, x73, x74, x75, x76, x77, x78, x79, x80, x81, x82, x83, x84, x85, x86, x87, x88, x89, x90, x91, x92, x93, x94, x95, x96, x97, x98, x99, x100, x101, x102, x103, x104, x105, x106, x107, x108, x109, x110, x111, x112, x113, x114, x115, x116, x117, x118, x119, x120, x121, x122, x123, x124, x125, x126, x127, x128, x129, x130, x131, x132, x133, x134, x135, x136, x137, x138, x139, x140, x141, x142, x143, x144, x145, x146, x147, x148, x149, x150, x151, x152, x153, x154, x155, x156, x157, x158, x159, x160, x161, x162, x163, x164, x165, x166, x167, x168, x169, x170, x171, x172, x173, x174, x175, x176, x177, x178, x179, x180, x181, x182, x183, x184, x185, x186, x187, x188, x189, x190, x191, x192, x193, x194, x195, x196, x197, x198, x199, x200, x201, x202, x203, x204, x205, x206, x207, x208, x209, x210, x211, x212, x213, x214, x215, x216, x217, x218, x219, x220, x221, x222, x223, x224, x225, x226, x227, x228, x229, x230, x231, x232, x233, x234, x235, x236, x237, x238, x239, x240, x241, x242, x243, x244, x245, x246, x247, x248, x249, x250, x251, x252, x253, x254, x255, x256, x257, x258, x259, x260, x261, x262, x263, x264, x265, x266, x267, x268, x269, x270, x271, x272, x273, x274, x275, x276], []⟩ ((X.alloc (.cells (h0Cells s) 37)).drewN q) := by
  have HE := Lib.hid hexit; clear hexit
  rw [← shiftF_start]
  dsimp only []
  conv => arg 2; whnf
  go_loopw [18] (fun i W => ∃ j : Nat, j ≤ 7 ∧ i = .int .i64 (j : Int) ∧ W = (X.alloc (.cells (eightC (shiftF s j)) 37)).drewN q) (fun i _ => (intOf i).toNat)
  case atStart => exact ⟨7, by omega, rfl, rfl⟩
  case round =>
    obtain ⟨j, hj, rfl, rfl⟩ := hrel
    by_cases hj0 : 0 < j
    · have hd : decide ((0 : Int) < (j : Int)) = true := by simp; omega
      obtain ⟨n1, hn1⟩ : ∃ n, j - 1 = n := ⟨_, rfl⟩
      have hr : shiftF s j n1 = s.get n1 := by unfold shiftF; rw [if_neg (by omega)]
      have d1 := arr_at X (eightC (shiftF s j)) 37 n1 _ (eightC_at _ n1 (by omega))
      rw [hr] at d1
      have dj := arr_at X (eightC (shiftF s j)) 37 j _ (eightC_at _ j (by omega))
      have hnx := shiftF_next s j hj0 hj
      rw [hn1] at hnx
      have w1 : IntKind.i64.wrap ((j : Int) - 1) = (n1 : Int) := by rw [IntKind.wrap_i64]; omega
      have e1 : (j : Int) - 1 = (n1 : Int) := by omega
      have b1 : (n1 : Int) < 8 := by omega
      have bj : (j : Int) < 8 := by omega
      have hm : n1 + 1 = j := by omega
      have hm7 : n1 ≤ 7 := by omega
      generalize shiftF s j = fj at *
      have HNX := Lib.hid hnx; have HM := Lib.hid hm; clear hnx hr hn1 hm
      go_wp2
      go_roundw
      case rel => exact ⟨n1, hm7, rfl, by rw [arr_store, HNX.out]⟩
      case measure => have := HM.out; simp [intOf]; omega
    · have hd : decide ((0 : Int) < (j : Int)) = false := by simp; omega
      obtain rfl : j = 0 := by omega
      go_wp2
      exact HE.out _ _ _ _ _ _ _ _ _ _ _
end Go.Proofs.YtdiljjoaihfloaaDoor
namespace Go.Proofs.YtdiljjoaihfloaaDoor
open Go.RowKit

theorem t1_int (a b c d e f g h k w : UInt32) : ((h.toNat : Int) + bits .xor .u32 (bits .xor .u32 ((rotr e 6).toNat : Int) ((rotr e 11).toNat : Int)) ((rotr e 25).toNat : Int) + bits .xor .u32 (bits .and .u32 (e.toNat : Int) (f.toNat : Int)) (bits .and .u32 (bits .xor .u32 IntKind.u32.max (e.toNat : Int)) (g.toNat : Int)) + (k.toNat : Int) + (w.toNat : Int)) % 4294967296 =
    ((t1W ⟨a, b, c, d, e, f, g, h⟩ k w).toNat : Int) := by
  rw [w_not, w_xor, w_xor, w_and, w_and, w_xor]
  unfold t1W
  rw [← w_add, ← w_add, ← w_add, ← w_add]
  show ((h.toNat : Int) + ((up1 e).toNat : Int) + ((chW e f g).toNat : Int) + (k.toNat : Int) + (w.toNat : Int)) % 4294967296 = _
  dsimp only
  omega
theorem t2_int (a b c d e f g h : UInt32) : (bits .xor .u32 (bits .xor .u32 ((rotr a 2).toNat : Int) ((rotr a 13).toNat : Int)) ((rotr a 22).toNat : Int) + bits .xor .u32 (bits .xor .u32 (bits .and .u32 (a.toNat : Int) (b.toNat : Int)) (bits .and .u32 (a.toNat : Int) (c.toNat : Int))) (bits .and .u32 (b.toNat : Int) (c.toNat : Int))) % 4294967296 =
    ((t2W ⟨a, b, c, d, e, f, g, h⟩).toNat : Int) := by
  rw [w_xor, w_xor, w_and, w_and, w_and, w_xor, w_xor, w_add]
  rfl
set_option maxRecDepth 100000 in
set_option maxHeartbeats 4000000 in
theorem refRounds_loop {x0 x1 x2 x4 x5 x6 x7 x8 x10 x11 x12 x13 x16 x17 x18 x19 x20 x21 x22 x23 x24 x25 x26 x27 x28 x29 x30 x31 x32 x33 x34 x35 x36 x37 x38 x39 x40 x41 x42 x43 x44 x45 x46 x47 x48 x49 x50 x51 x52 x53 x54 x55 x56 x57 x58 x59 x60 x61 x62 x63 x64 x65 x66 x67 x68 x69 x70 x71 x72 x73 x74 x75 x76 x77 x78 x79 x80 x81 x82 x83 x84 x85 x86 x87 x88 x89 x90 x91 x92 x93 x94 x95 x96 x97 x98 x99 x100 x101 x102 x103 x104 x105 x106 x107 x108 x109 x110 x111 x112 x113 x114 x115 x116 x117 x118 x119 x120 x121 x122 x123 x124 x125 x126 x127 x128 x129 x130 x131 x132 x133 x134 x135 x136 x137 x138 x139 x140 x141 x142 x143 x144 x145 x146 x147 x148 x149 x150 x151 x152 x153 x154 x155 x156 x157 x158 x159 x160 x161 x162 x163 x164 x165 x166 x167 x168 x169 x170 x171 x172 x173 x174 x175 x176 x177 x178 x179 x180 x181 x182 x183 x184 x185 x186 x187 x188 x189 x190 x191 x192 x193 x194 x195 x196 x197 x198 x199 x200 x201 x202 x203 x204 x205 x206 x207 x208 x209 x210 x211 x212 x213 x214 x215 x216 x217 x218 x219 x220 x221 x222 x223 x224 x225 x226 x227 x228 x229 x230 x231 x232 x233 x234 x235 x236 x237 x238 x239 x240 x241 x242 x243 x244 x245 x246 x247 x248 x249 x250 x251 x252 x253 x254 x255 x256 x257 x258 x259 x260 x261 x262 x263 x264 x265 x266 x267 x268 x269 x270 x271 x272 x273 x274 x275 x276 : Value} (X : World) (M : List UInt8) (p : Nat) (s : S8) (kb bw : Nat) (Q : Exit → Act → World → Prop) (hkb : kb < X.heap.size) (hbw : bw < X.heap.size)
    (hK : ∀ i, i < 64 → X.cell? ⟨kb, i, none⟩ = some (.int .u32 ((kAt i).toNat : Int))) (hW : ∀ i, i < 64 → X.cell? ⟨bw, i, none⟩ = some (.int .u32 ((schedW M p i).toNat : Int)))
    (hexit : ∀ (y15 y16 y17 y18 y149 y150 y151 y152 y153 y154 y155 y156 y157 y158 y159 y160 y161 y162 y163 y164 y165 y166 y167 y168 y169 y170 y171 y172 y173 y174 y175 y176 y177 y178 y179 y180 y181 y182 y183 y184 y185 y186 y187 y188 y189 y190 y191 y192 y193 y194 y195 y196 y197 y198 y199 y200 y201 y202 y203 y204 y205 y206 y207 y208 y209 y210 y211 y212 y213 y214 y215 y216 y217 y218 y219 y220 y221 y222 y223 y224 y225 y226 y227 y228 y229 y230 y231 y232 y233 y234 y235 : Value) (q : Nat), Q (.exit 8) ⟨#[x0, x1, x2, .pointer (some ⟨kb, 0, none⟩), x4, x5, x6, x7, x8, .pointer (some ⟨bw, 0, none⟩), x10, x11, x12, x13, .pointer (some ⟨X.heap.size, 0, none⟩), y15, y16, y17, y18, x19, x20, x21, x22, x23, x24, x25, x26, x27, x28, x29, x30, x31, x32, x33, x34, x35, x36, x37, x38, x39, x40, x41, x42, x43, x44, x45, x46, x47, x48, x49, x50, x51, x52, x53, x54, x55, x56, x57, x58, x59, x60, x61, x62, x63, x64, x65, x66, x67, x68, x69, x70, x71, x72, x73, x74, x75, x76, x77, x78, x79, x80, x81, x82, x83, x84, x85, x86, x87, x88, x89, x90, x91, x92, x93, x94, x95, x96, x97, x98, x99, x100, x101, x102, x103, x104, x105, x106, x107, x108, x109, x110, x111, x112, x113, x114, x115, x116, x117, x118, x119, x120, x121, x122, x123, x124, x125, x126, x127, x128, x129, x130, x131, x132, x133, x134, x135, x136, x137, x138, x139, x140, x141, x142, x143, x144, x145, x146, x147, x148, y149, y150, y151, y152, y153, y154, y155, y156, y157, y158, y159, y160, y161, y162, y163, y164, y165, y166, y167, y168, y169, y170, y171, y172, y173, y174, y175, y176, y177, y178, y179, y180, y181, y182, y183, y184, y185, y186, y187, y188, y189, y190, y191, y192, y193, y194, y195, y196, y197, y198, y199, y200, y201, y202, y203, y204, y205, y206, y207, y208, y209, y210, y211, y212, y213, y214, y215, y216, y217, y218, y219, y220, y221, y222, y223, y224, y225, y226, y227, y228, y229, y230, y231, y232, y233, y234, y235, x236, x237, x238, x239, x240, x241, x242, x243, x244, x245, x246, x247, x248, x249, x250, x251, x252, x253, x254, x255, x256, x257, x258, x259, x260, x261, x262, x263, x264, x265, x266, x267, x268, x269, x270, x271, x272, x273, x274, x275, x276], []⟩ ((X.alloc (.cells (h0Cells (roundsW M p s 64)) 37)).drewN q)) :
    Code.wp Tryd.prog (refLoop 26) Q ⟨#[x0, x1, x2, .pointer (some ⟨kb, 0, none⟩), x4, x5, x6, x7, x8, .pointer (some ⟨bw, 0, none⟩), x10, x11, x12, x13, .pointer (some ⟨X.heap.size, 0, none⟩), .int .i64 0, x16, x17, x18, x19, x20, x21, x22, x23, x24, x25, x26, x27, x28, x29, x30, x31, x32, x33, x34, x35, x36, x37, x38, x39, x40, x41, x42, x43, x44, x45, x46, x47, x48, x49, x50, x51, x52, x53, x54, x55, x56, x57, x58, x59, x60, x61, x62, x63, x64, x65, x66, x67, x68, x69, x70, x71, x72, x73, x74, x75, x76, x77, x78, x79, x80, x81, x82, x83, x84, x85, x86, x87, x88, x89, x90, x91, x92, x93, x94, x95, x96, x97, x98, x99, x100, x101, x102, x103, x104, x105, x106, x107, x108, x109, x110, x111, x112, x113, x114, x115, x116, x117, x118, x119, x120, x121, x122, x123, x124, x125, x126, x127, x128, x129, x130, x131, x132, x133, x134, x135, x136, x137, x138, x139, x140, x141, x142, x143, x144, x145, x146, x147, x148, x149, x150, x151, x152, x153, x154, x155, x156, x157, x158, x159, x160, x161, x162, x163, x164, x165, x166, x167, x168, x169, x170, x171, x172, x173, x174, x175, x176, x177, x178, x179, x180, x181, x182, x183, x184, x185, x186, x187, x188, x189, x190, x191, x192, x193, x194, x195, x196, x197, x198, x199, x200, x201, x202, x203, x204, x205, x206, x207, x208, x209, x210, x211, x212, x213, x214, x215, x216, x217, x218, x219, x220, x221, x222, x223, x224, x225, x226, x227, x228, x229, x230, x231, x232, x233, x234, x235, x236, x237, x238, x239, x240, x241, x242, x243, x244, x245, x246, x247, x248, x249, x250, x251, x252, x253, x254, x255, x256, x257, x258, x259, x260, x261, x262, x263, x264, x265, x266, x267, x268, x269, x270, x271, x272, x273, x274, x275, x276], []⟩ (X.alloc (.cells (h0Cells s) 37)) := by
  have HE := Lib.hid hexit; clear hexit
  have HK := Lib.hid hK; have HW := Lib.hid hW; clear hK hW
  dsimp only []
  conv => arg 2; whnf
  go_loopw [15] (fun i W => ∃ k q : Nat, k ≤ 64 ∧ i = .int .i64 (k : Int) ∧ W = (X.alloc (.cells (h0Cells (roundsW M p s k)) 37)).drewN q) (fun i _ => 64 - (intOf i).toNat)
  case atStart => exact ⟨0, 0, by omega, rfl, rfl⟩
  case round =>
    obtain ⟨k, q, hk, rfl, rfl⟩ := hrel
    by_cases hk64 : k < 64
    · have hd64 : decide ((k : Int) < 64) = true := by simp; omega
      have bk : (k : Int) < 64 := by omega
      have hnx : roundsW M p s (k + 1) = roundW (roundsW M p s k) (kAt k) (schedW M p k) := rfl
      have dK := (old_at X (.cells (h0Cells (roundsW M p s k)) 37) kb k hkb).trans (HK.out k hk64)
      have dW := (old_at X (.cells (h0Cells (roundsW M p s k)) 37) bw k hbw).trans (HW.out k hk64)
      generalize kAt k = kk at *
      generalize schedW M p k = ww at *
      generalize roundsW M p s k = r at *
      obtain ⟨ra, rb, rc, rd, re, rf, rg, rh⟩ := r
      have HNX := Lib.hid hnx; clear hnx
      have c0 : ((X.alloc (.cells (h0Cells ⟨ra, rb, rc, rd, re, rf, rg, rh⟩) 37)).drewN q).cell? ⟨X.heap.size, 0, none⟩ = some (.int .u32 (ra.toNat : Int)) := arr_at X _ _ 0 _ rfl
      have c1 : ((X.alloc (.cells (h0Cells ⟨ra, rb, rc, rd, re, rf, rg, rh⟩) 37)).drewN q).cell? ⟨X.heap.size, 1, none⟩ = some (.int .u32 (rb.toNat : Int)) := arr_at X _ _ 1 _ rfl
      have c2 : ((X.alloc (.cells (h0Cells ⟨ra, rb, rc, rd, re, rf, rg, rh⟩) 37)).drewN q).cell? ⟨X.heap.size, 2, none⟩ = some (.int .u32 (rc.toNat : Int)) := arr_at X _ _ 2 _ rfl
      have c4 : ((X.alloc (.cells (h0Cells ⟨ra, rb, rc, rd, re, rf, rg, rh⟩) 37)).drewN q).cell? ⟨X.heap.size, 4, none⟩ = some (.int .u32 (re.toNat : Int)) := arr_at X _ _ 4 _ rfl
      have c5 : ((X.alloc (.cells (h0Cells ⟨ra, rb, rc, rd, re, rf, rg, rh⟩) 37)).drewN q).cell? ⟨X.heap.size, 5, none⟩ = some (.int .u32 (rf.toNat : Int)) := arr_at X _ _ 5 _ rfl
      have c6 : ((X.alloc (.cells (h0Cells ⟨ra, rb, rc, rd, re, rf, rg, rh⟩) 37)).drewN q).cell? ⟨X.heap.size, 6, none⟩ = some (.int .u32 (rg.toNat : Int)) := arr_at X _ _ 6 _ rfl
      have c7 : ((X.alloc (.cells (h0Cells ⟨ra, rb, rc, rd, re, rf, rg, rh⟩) 37)).drewN q).cell? ⟨X.heap.size, 7, none⟩ = some (.int .u32 (rh.toNat : Int)) := arr_at X _ _ 7 _ rfl
      change ((X.alloc (.cells (h0Cells ⟨ra, rb, rc, rd, re, rf, rg, rh⟩) 37)).drewN q).cell? _ = _ at dK
      change ((X.alloc (.cells (h0Cells ⟨ra, rb, rc, rd, re, rf, rg, rh⟩) 37)).drewN q).cell? _ = _ at dW
      generalize hW1 : (X.alloc (.cells (h0Cells ⟨ra, rb, rc, rd, re, rf, rg, rh⟩) 37)).drewN q = W at *
      have HW1 := Lib.hid hW1; clear hW1
      go_wp2
      go_quiet ((go_at_call 21; exact Calls.quiet_of_same (turn_q _ _ (by decide) (by decide) _)))
      go_wp2
      go_quiet ((go_at_call 21; exact quiet_more (turn_q _ _ (by decide) (by decide) _)))
      rw [t1_int ra rb rc rd re rf rg rh kk ww, t2_int ra rb rc rd re rf rg rh]
      have HNX2 : Hid (roundsW M p s (k + 1) = ⟨addW (t1W ⟨ra, rb, rc, rd, re, rf, rg, rh⟩ kk ww) (t2W ⟨ra, rb, rc, rd, re, rf, rg, rh⟩), ra, rb, rc, addW rd (t1W ⟨ra, rb, rc, rd, re, rf, rg, rh⟩ kk ww), re, rf, rg⟩) := Lib.hid HNX.out
      generalize t1W ⟨ra, rb, rc, rd, re, rf, rg, rh⟩ kk ww = xx at *
      generalize t2W ⟨ra, rb, rc, rd, re, rf, rg, rh⟩ = yy at *
      clear HNX c0 c1 c2 c4 c5 c6 c7 dK dW
      go_wp2
      rw [← HW1.out, World.drewN_drewN, World.drewN_drewN]
      refine refShift_loop X ⟨ra, rb, rc, rd, re, rf, rg, rh⟩ _ _ ?_
      intros
      have c4 := arr_at X (eightC (shiftF ⟨ra, rb, rc, rd, re, rf, rg, rh⟩ 0)) 37 4 (.int .u32 (rd.toNat : Int)) rfl
      have c0 := arr_at X (eightC (shiftF ⟨ra, rb, rc, rd, re, rf, rg, rh⟩ 0)) 37 0 (.int .u32 (ra.toNat : Int)) rfl
      have hend := shiftF_end ⟨ra, rb, rc, rd, re, rf, rg, rh⟩ xx yy
      generalize eightC (shiftF ⟨ra, rb, rc, rd, re, rf, rg, rh⟩ 0) = C at *
      have HEND := Lib.hid hend; clear hend
      go_wp2
      go_roundw
      case rel => exact ⟨k + 1, _, by omega, by go_num, by rw [arr_store, arr_store, w_add, w_add, HEND.out, HNX2.out]⟩
      case measure => simp [intOf]; omega
    · have hd64 : decide ((k : Int) < 64) = false := by simp; omega
      obtain rfl : k = 64 := by omega
      go_wp2
      exact HE.out _ _ _ _ _ _ _ _ _ _ _ _ _ _ _ _ _ _ _ _ _ _ _ _ _ _ _ _ _ _ _ _ _ _ _ _ _ _ _ _ _ _ _ _ _ _ _ _ _ _ _ _ _ _ _ _ _ _ _ _ _ _ _ _ _ _ _ _ _ _ _ _ _ _ _ _ _ _ _ _ _ _ _ _ _ _ _ _ _ _ _ _
end Go.Proofs.YtdiljjoaihfloaaDoor
