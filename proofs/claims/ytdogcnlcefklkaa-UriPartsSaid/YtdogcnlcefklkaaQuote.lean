/- text.Quote by its loop. -/
import Derived.Test.YtdogcnlcefklkaaLeaf
namespace Go.Proofs.Ytdogcnlcefklkaa
open Go.RowKit
set_option maxRecDepth 100000 in
theorem quote_any (s : ByteArray) (hs : s.size ≤ 46912496117759) (w : World) :
    Calls Try.prog 28 #[.string s] w fun e w' => e = .returned (.string ⟨(quoteL s.data.toList).toArray⟩) ∧ Below w.heap.size w w' := by
  obtain ⟨i0, hi, hz0, hz1, hz2⟩ := info_parts Try.infoByte
  go_enter Try.func28, Try.ntmps28
  go_wp2_with (at_make; refine wpList_make_own _ rfl _ _ 37 rfl w.heap.size 5 i0 _ 1 Try.underlying37 hi hz0 hz1 _ _ _ s.size rfl rfl (by omega) (by rw [hz2]; omega) (by unfold maxLen; omega) (Nat.le_refl _) ?_)
  intro w0 hown0 hg0
  have hb0 : Below w.heap.size w w0 := (Below.refl _ _).grown hg0 (Nat.le_refl _) (by simp)
  go_wp2
  go_loopw [3, 11] (fun v i wr => ∃ k : Nat, k ≤ s.size ∧ i = .int .i64 k ∧ Buf wr w.heap.size v (quoteL (s.data.toList.take k)) ∧ Below w.heap.size w wr) (fun _ i _ => s.size - (intOf i).toNat)
  case atStart => exact ⟨0, Nat.zero_le _, rfl, hown0, hb0⟩
  case round =>
    obtain ⟨k, hk, rfl, hown, hb⟩ := hrel
    have hql := quoteL_le (s.data.toList.take k)
    have htl : (s.data.toList.take k).length ≤ k := List.length_take_le _ _
    have hbs := hb.size
    by_cases hlt : k < s.size
    · have hsn := take_snoc s k hlt
      by_cases hp : plainB s[k] = true
      · have hnext : quoteL (s.data.toList.take (k + 1)) = quoteL (s.data.toList.take k) ++ [s[k]] := by rw [hsn, quoteL_snoc]; simp [quote1, hp]
        have HN := Lib.hid hnext; clear hnext hsn
        go_wp2_with (first
          | (go_at_call 34; refine (plain_any _ _).mono ?_; rintro e w' ⟨rfl, rfl⟩)
          | (at_builtin; refine wpList_append_own _ rfl (.tmp 19) (.tmp 21) 37 rfl w.heap.size 5 i0 _ 1 1 Try.underlying37 hi hz0 hz1 hz2 rfl (by decide) _ _ _ rfl (World.ownsRow.alloc hown _) ⟨_, 0, none⟩ 1 1 [.int .u8 s[k].toNat] rfl rfl (new_cells _ #[_] _) (one_cell _) (by unfold maxLen; omega) (by omega) (by simp; omega) ?_))
        intro v' w1 hown' hg' _
        have hb1 : Below w.heap.size w w1 := (hb.alloc hbs _).grown hg' (by simp; omega) (fun j hj => (hown.lt j hj).1)
        go_wp2
        go_roundw
        case rel => exact ⟨k + 1, by omega, by go_num, Buf.cut hown' (by rw [HN.out]; simp) (by rw [HN.out, cells_app]; rfl), hb1⟩
        case measure => simp [intOf]; omega
      · have hp' : plainB s[k] = false := by simpa using hp
        have hnext : quoteL (s.data.toList.take (k + 1)) = quoteL (s.data.toList.take k) ++ [37, hexU (s[k].toNat / 16), hexU (s[k].toNat % 16)] := by rw [hsn, quoteL_snoc]; simp [quote1, hp']
        have HN := Lib.hid hnext; clear hnext hsn hp
        have hu := s[k].toNat_lt
        go_wp2_with (first
          | (go_at_call 34; refine (plain_any _ _).mono ?_; rintro e w' ⟨rfl, rfl⟩))
        have h15 : bits .and .u8 (s[k].toNat : Int) 15 = (s[k].toNat : Int) % 16 := u8_and15 _ (by omega) (by omega)
        have h15a : 0 ≤ (s[k].toNat : Int) % 16 := by omega
        have h15b : (s[k].toNat : Int) % 16 < 16 := by omega
        go_region_held3 (fun _ => True) (trivial) ((refine step_append_own rfl (.tmp 23) (.tmp 30) 37 rfl w.heap.size 5 i0 _ 1 1 Try.underlying37 hi hz0 hz1 hz2 rfl (by decide) _ _ _ rfl (World.ownsRow.alloc (World.ownsRow.drew hown) _) ⟨_, 0, none⟩ 3 3 [.int .u8 37, .int .u8 _, .int .u8 _] rfl rfl (new_cells _ #[_, _, _] _) (three_cells _ _ _) (by unfold maxLen; omega) (by omega) (by simp; omega) ?_; intro v' w1 hown' hg' hn'))
        all_goals
          have hb1 : Below w.heap.size w w1 := ((hb.drew).alloc hbs _).grown hg' (by simp; omega) (fun j hj => (hown.lt j hj).1)
          go_wp2
          go_roundw
          case rel => exact ⟨k + 1, by omega, by go_num, Buf.cut hown' (by rw [HN.out]; simp) (by rw [HN.out, cells_app]; exact congrArg _ (hex_cells s[k] _ _ rfl rfl _ _)), hb1⟩
          case measure => simp [intOf]; omega
    · have hke : k = s.size := by omega
      subst hke
      have hcv := hown.text
      go_wp2
      go_ret
      exact ⟨ret_str (by rw [take_all]), hb⟩
end Go.Proofs.Ytdogcnlcefklkaa
