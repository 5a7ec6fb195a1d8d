/- text.Encode by its loops. -/
import Derived.Test.YtahgcnoaflamfaaQuote
import Derived.LoopN
namespace Go.Proofs.Ytahgcnoaflamfaa
open Go.RowKit

theorem push8_lt (H : Nat) (b : UInt8) : push8 H b < 4294967296 := by have := b.toNat_lt; unfold push8; omega
theorem or_push8 (H : Nat) (b : UInt8) : bits .or .u32 ((H : Int) * 256 % 4294967296) ((b.toNat : Int) % 4294967296) = (push8 H b : Int) := by
  have := b.toNat_lt
  rw [show (b.toNat : Int) % 4294967296 = b.toNat by omega]
  rw [bits_join .u32 32 (by decide) (fun n h0 h1 => by rw [IntKind.wrap_u32]; omega) 8 _ _ (by omega) (by omega) (by omega) (by omega) (by omega) (by omega)]
  unfold push8; omega
theorem and63 (x : Int) (h0 : 0 ≤ x) (h1 : x < 4294967296) : bits .and .u32 x 63 = x % 64 :=
  bits_mask .u32 32 (by decide) (fun n h0 h1 => by rw [IntKind.wrap_u32]; omega) 6 (by decide) x h0 h1

theorem cells_ltr (l : List UInt8) (n m : Nat) (hn : n = m) (h : n < (ByteArray.mk ltrs).size) : cells l ++ [Value.int .u8 ((ByteArray.mk ltrs)[n].toNat : Int)] = cells (l ++ [ltr m]) := by
  subst hn
  rw [ltr_at h, cells_app]; rfl

def EncAt (l : List UInt8) (k : Nat) (H bits : Nat) (acc : List UInt8) : Prop := enc l = acc ++ encS H bits (l.drop k)

theorem encAt_0 {l acc : List UInt8} {k H : Nat} (h : EncAt l k H 0 acc) (hk : k < l.length) : EncAt l (k + 1) (push8 H l[k]) 2 (acc ++ [ltr (push8 H l[k] / 4 % 64)]) := by
  unfold EncAt at h ⊢; rw [h, List.drop_eq_getElem_cons hk, encS_0]; simp
theorem encAt_2 {l acc : List UInt8} {k H : Nat} (h : EncAt l k H 2 acc) (hk : k < l.length) : EncAt l (k + 1) (push8 H l[k]) 4 (acc ++ [ltr (push8 H l[k] / 16 % 64)]) := by
  unfold EncAt at h ⊢; rw [h, List.drop_eq_getElem_cons hk, encS_2]; simp
theorem encAt_4 {l acc : List UInt8} {k H : Nat} (h : EncAt l k H 4 acc) (hk : k < l.length) : EncAt l (k + 1) (push8 H l[k]) 0 (acc ++ [ltr (push8 H l[k] / 64 % 64)] ++ [ltr (push8 H l[k] % 64)]) := by
  unfold EncAt at h ⊢; rw [h, List.drop_eq_getElem_cons hk, encS_4]; simp
theorem encAt_end0 {l acc : List UInt8} {H : Nat} (h : EncAt l l.length H 0 acc) : acc = enc l := by
  unfold EncAt at h; rw [h, List.drop_length]; simp [encS]
theorem encAt_end2 {l acc : List UInt8} {H : Nat} (h : EncAt l l.length H 2 acc) : acc ++ [ltr (H * 16 % 64)] = enc l := by
  unfold EncAt at h; rw [h, List.drop_length, encS_end2, show H * 16 % 4294967296 % 64 = H * 16 % 64 by omega]
theorem encAt_end4 {l acc : List UInt8} {H : Nat} (h : EncAt l l.length H 4 acc) : acc ++ [ltr (H * 4 % 64)] = enc l := by
  unfold EncAt at h; rw [h, List.drop_length, encS_end4, show H * 4 % 4294967296 % 64 = H * 4 % 64 by omega]

set_option maxHeartbeats 1000000 in
set_option maxRecDepth 100000 in
theorem encode_any (s : ByteArray) (hs : s.size ≤ 46912496117759) (w : World) :
    Calls Try.prog 11 #[.string s] w fun e w' => e = .returned (.string ⟨(enc s.data.toList).toArray⟩) ∧ Below w.heap.size w w' := by
  obtain ⟨i0, hi, hz0, hz1, hz2⟩ := info_parts Try.infoByte
  go_enter Try.func11, Try.ntmps11
  go_wp2_with (at_make; refine wpList_make_own _ rfl _ _ 31 rfl w.heap.size 5 i0 _ 1 Try.underlying31 hi hz0 hz1 _ _ _ (s.size / 3 * 4 + 3) rfl rfl (by omega) (by rw [hz2]; omega) (by unfold maxLen; omega) (Nat.le_refl _) ?_)
  intro w0 hown0 hg0
  have hb0 : Below w.heap.size w w0 := (Below.refl _ _).grown hg0 (Nat.le_refl _) (by simp)
  go_wp2
  go_loopw [3, 4, 5, 15] (fun v h b i wr => ∃ (k H bits : Nat) (acc : List UInt8), k ≤ s.size ∧ i = .int .i64 k ∧ h = .int .u32 H ∧ H < 4294967296 ∧ b = .int .i64 bits ∧ (bits = 0 ∨ bits = 2 ∨ bits = 4) ∧ Buf wr w.heap.size v acc ∧ acc.length ≤ 2 * k ∧ EncAt s.data.toList k H bits acc ∧ Below w.heap.size w wr) (fun _ _ _ i _ => s.size - (intOf i).toNat)
  case atStart => exact ⟨0, 0, 0, [], Nat.zero_le _, rfl, rfl, by decide, rfl, .inl rfl, hown0, Nat.zero_le _, (encS_enc _ 0).symm, hb0⟩
  case round =>
    obtain ⟨k, H, bts, acc, hk, rfl, rfl, hH, rfl, h024, hown, hal, hat, hb⟩ := hrel
    have HA := Lib.hid hat; clear hat
    have hbs := hb.size
    by_cases hlt : k < s.size
    · have hp := push8_lt H s[k]
      have ho := or_push8 H s[k]
      have p4 := and63 ((push8 H s[k] : Int) / 4) (by omega) (by omega)
      have p16 := and63 ((push8 H s[k] : Int) / 16) (by omega) (by omega)
      have p64 := and63 ((push8 H s[k] : Int) / 64) (by omega) (by omega)
      have p1 := and63 ((push8 H s[k] : Int)) (by omega) (by omega)
      rcases h024 with rfl | rfl | rfl
      · clear p16 p64 p1
        go_wp2
        refine wp_loop_rounds 2 ?_
        rw [rounds_succ]
        go_wp2_with (at_builtin; refine wpList_append_own _ rfl (.tmp 31) (.tmp 37) 31 rfl w.heap.size 5 i0 _ 1 1 Try.underlying31 hi hz0 hz1 hz2 rfl (by decide) _ _ _ rfl (World.ownsRow.alloc hown _) ⟨_, 0, none⟩ 1 1 [.int .u8 _] rfl rfl (new_cells _ #[_] _) (one_cell _) (by unfold maxLen; omega) (by omega) (by simp; omega) ?_)
        intro v' w1 hown' hg' _
        have hb1 : Below w.heap.size w w1 := (hb.alloc hbs _).grown hg' (by simp; omega) (fun j hj => (hown.lt j hj).1)
        go_wp2
        rw [rounds_succ]
        go_wp2
        go_roundw
        case rel => exact ⟨k + 1, push8 H s[k], 2, acc ++ [ltr (push8 H s[k] / 4 % 64)], by omega, by go_num, rfl, hp, rfl, .inr (.inl rfl), Buf.cut hown' (by simp) (cells_ltr _ _ _ (by omega) _), by simp; omega, encAt_0 HA.out hlt, hb1⟩
        case measure => simp [intOf]; omega
      · clear p4 p64 p1
        go_wp2
        refine wp_loop_rounds 2 ?_
        rw [rounds_succ]
        go_wp2_with (at_builtin; refine wpList_append_own _ rfl (.tmp 31) (.tmp 37) 31 rfl w.heap.size 5 i0 _ 1 1 Try.underlying31 hi hz0 hz1 hz2 rfl (by decide) _ _ _ rfl (World.ownsRow.alloc hown _) ⟨_, 0, none⟩ 1 1 [.int .u8 _] rfl rfl (new_cells _ #[_] _) (one_cell _) (by unfold maxLen; omega) (by omega) (by simp; omega) ?_)
        intro v' w1 hown' hg' _
        have hb1 : Below w.heap.size w w1 := (hb.alloc hbs _).grown hg' (by simp; omega) (fun j hj => (hown.lt j hj).1)
        go_wp2
        rw [rounds_succ]
        go_wp2
        go_roundw
        case rel => exact ⟨k + 1, push8 H s[k], 4, acc ++ [ltr (push8 H s[k] / 16 % 64)], by omega, by go_num, rfl, hp, rfl, .inr (.inr rfl), Buf.cut hown' (by simp) (cells_ltr _ _ _ (by omega) _), by simp; omega, encAt_2 HA.out hlt, hb1⟩
        case measure => simp [intOf]; omega
      · clear p4 p16
        go_wp2
        refine wp_loop_rounds 3 ?_
        rw [rounds_succ]
        go_wp2_with (at_builtin; refine wpList_append_own _ rfl (.tmp 31) (.tmp 37) 31 rfl w.heap.size 5 i0 _ 1 1 Try.underlying31 hi hz0 hz1 hz2 rfl (by decide) _ _ _ rfl (World.ownsRow.alloc hown _) ⟨_, 0, none⟩ 1 1 [.int .u8 _] rfl rfl (new_cells _ #[_] _) (one_cell _) (by unfold maxLen; omega) (by omega) (by simp; omega) ?_)
        intro v' w1 hown' hg' _
        have hb1 : Below w.heap.size w w1 := (hb.alloc hbs _).grown hg' (by simp; omega) (fun j hj => (hown.lt j hj).1)
        have hown1 : Buf w1 w.heap.size v' (acc ++ [ltr (push8 H s[k] / 64 % 64)]) := Buf.cut hown' (by simp) (cells_ltr _ _ _ (by omega) _)
        have hbs1 := hb1.size
        have hl1 : (acc ++ [ltr (push8 H s[k] / 64 % 64)]).length ≤ 2 * k + 1 := by simp; omega
        clear hown' hg'
        go_wp2
        rw [rounds_succ]
        go_wp2_with (at_builtin; refine wpList_append_own _ rfl (.tmp 31) (.tmp 37) 31 rfl w.heap.size 5 i0 _ 1 1 Try.underlying31 hi hz0 hz1 hz2 rfl (by decide) _ _ _ rfl (World.ownsRow.alloc hown1 _) ⟨_, 0, none⟩ 1 1 [.int .u8 _] rfl rfl (new_cells _ #[_] _) (one_cell _) (by unfold maxLen; omega) (by omega) (by simp; omega) ?_)
        intro v2 w2 hown' hg' _
        have hb2 : Below w.heap.size w w2 := (hb1.alloc hbs1 _).grown hg' (by simp; omega) (fun j hj => (hown1.lt j hj).1)
        go_wp2
        rw [rounds_succ]
        go_wp2
        go_roundw
        case rel => exact ⟨k + 1, push8 H s[k], 0, acc ++ [ltr (push8 H s[k] / 64 % 64)] ++ [ltr (push8 H s[k] % 64)], by omega, by go_num, rfl, hp, rfl, .inl rfl, Buf.cut hown' (by simp) (cells_ltr _ _ _ (by omega) _), by simp; omega, encAt_4 HA.out hlt, hb2⟩
        case measure => simp [intOf]; omega
    · have hke : k = s.size := by omega
      subst hke
      rcases h024 with rfl | rfl | rfl
      · have hcv := hown.text
        go_wp2
        go_ret
        exact ⟨ret_str (encAt_end0 HA.out), hb⟩
      · have q16 := and63 ((H : Int) * 16 % 4294967296) (by omega) (by omega)
        go_wp2_with (at_builtin; refine wpList_append_own _ rfl (.tmp 42) (.tmp 49) 31 rfl w.heap.size 5 i0 _ 1 1 Try.underlying31 hi hz0 hz1 hz2 rfl (by decide) _ _ _ rfl (World.ownsRow.alloc hown _) ⟨_, 0, none⟩ 1 1 [.int .u8 _] rfl rfl (new_cells _ #[_] _) (one_cell _) (by unfold maxLen; omega) (by omega) (by simp; omega) ?_)
        intro v' w1 hown' hg' _
        have hb1 : Below w.heap.size w w1 := (hb.alloc hbs _).grown hg' (by simp; omega) (fun j hj => (hown.lt j hj).1)
        have hcv := (Buf.cut (l := acc ++ [ltr (H * 16 % 64)]) hown' (by simp) (cells_ltr _ _ _ (by omega) _)).text
        go_wp2
        go_ret
        exact ⟨ret_str (encAt_end2 HA.out), hb1⟩
      · have q4 := and63 ((H : Int) * 4 % 4294967296) (by omega) (by omega)
        go_wp2_with (at_builtin; refine wpList_append_own _ rfl (.tmp 42) (.tmp 49) 31 rfl w.heap.size 5 i0 _ 1 1 Try.underlying31 hi hz0 hz1 hz2 rfl (by decide) _ _ _ rfl (World.ownsRow.alloc hown _) ⟨_, 0, none⟩ 1 1 [.int .u8 _] rfl rfl (new_cells _ #[_] _) (one_cell _) (by unfold maxLen; omega) (by omega) (by simp; omega) ?_)
        intro v' w1 hown' hg' _
        have hb1 : Below w.heap.size w w1 := (hb.alloc hbs _).grown hg' (by simp; omega) (fun j hj => (hown.lt j hj).1)
        have hcv := (Buf.cut (l := acc ++ [ltr (H * 4 % 64)]) hown' (by simp) (cells_ltr _ _ _ (by omega) _)).text
        go_wp2
        go_ret
        exact ⟨ret_str (encAt_end4 HA.out), hb1⟩
end Go.Proofs.Ytahgcnoaflamfaa
