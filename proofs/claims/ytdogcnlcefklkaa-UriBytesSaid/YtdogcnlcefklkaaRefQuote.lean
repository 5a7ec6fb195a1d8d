/- The reference's plain and Quote. -/
import Derived.Test.YtdogcnlcefklkaaQuote
namespace Go.Proofs.Ytdogcnlcefklkaa
open Go.RowKit

set_option maxRecDepth 100000 in
theorem refPlain_any (c : UInt8) (w : World) :
    Calls Try.prog 35 #[.int .u8 c.toNat] w fun e w' => e = .returned (.bool (plainB c)) ∧ w = w' := by
  by_cases ha : alnumB c = true
  · have hp : plainB c = true := by simp [alnumB] at ha; simp [plainB]; omega
    rw [hp]; clear hp
    go_enter Try.func35, Try.ntmps35
    go_wp2_with (go_at_call 41; refine (alnum_any c _).mono ?_; rintro e w' ⟨rfl, rfl⟩)
    go_ret
    exact ⟨rfl, rfl⟩
  · have ha' : alnumB c = false := by simpa using ha
    have hp : plainB c = decide ((c.toNat : Int) = 45 ∨ (c.toNat : Int) = 46 ∨ (c.toNat : Int) = 95 ∨ (c.toNat : Int) = 126) := by
      rw [Bool.eq_iff_iff]; simp [alnumB] at ha; simp [plainB]; omega
    rw [hp]; clear hp ha
    go_enter Try.func35, Try.ntmps35
    go_wp2_with (go_at_call 41; refine (alnum_any c _).mono ?_; rintro e w' ⟨rfl, rfl⟩)
    all_goals
      go_ret
      exact ⟨ret_bool (by rw [Bool.eq_iff_iff]; simp [*]; try omega), rfl⟩

set_option maxRecDepth 100000 in
theorem refQuote_any (s : ByteArray) (hs : s.size ≤ 46912496117759) (w : World) :
    Calls Try.prog 30 #[.string s] w fun e w' => e = .returned (.string ⟨(quoteL s.data.toList).toArray⟩) ∧ Below w.heap.size w w' := by
  obtain ⟨i0, hi, hz0, hz1, hz2⟩ := info_parts Try.infoByte
  go_enter Try.func30, Try.ntmps30
  go_wp2
  go_loopw [3, 4] (fun v i wr => ∃ k : Nat, k ≤ s.size ∧ i = .int .i64 k ∧ Buf wr w.heap.size v (quoteL (s.data.toList.take k)) ∧ Below w.heap.size w wr) (fun _ i _ => s.size - (intOf i).toNat)
  case atStart => exact ⟨0, Nat.zero_le _, rfl, World.ownsRow_nil _ _ _ _, Below.refl _ _⟩
  case round =>
    obtain ⟨k, hk, rfl, hown, hb⟩ := hrel
    have hql := quoteL_le (s.data.toList.take k)
    have htl : (s.data.toList.take k).length ≤ k := List.length_take_le _ _
    have hbs := hb.size
    by_cases hlt : k < s.size
    · have hsn := take_snoc s k hlt
      by_cases hp : plainB s[k] = true
      · have hnext : quoteL (s.data.toList.take (k + 1)) = quoteL (s.data.toList.take k) ++ [s[k]] := by rw [hsn, quoteL_snoc]; simp [quote1, hp]
        have HN := Lib.hid hnext; clear hnext hsn
        go_wp2_with (first
          | (go_at_call 35; refine (refPlain_any _ _).mono ?_; rintro e w' ⟨rfl, rfl⟩)
          | (at_builtin; refine wpList_append_own _ rfl (.tmp 15) (.tmp 19) 37 rfl w.heap.size 5 i0 _ 1 1 Try.underlying37 hi hz0 hz1 hz2 rfl (by decide) _ _ _ rfl (World.ownsRow.alloc hown _) ⟨_, 0, none⟩ 1 1 [.int .u8 s[k].toNat] rfl rfl (new_cells _ #[_] _) (one_cell _) (by unfold maxLen; omega) (by omega) (by simp; omega) ?_))
        intro v' w1 hown' hg' _
        have hb1 : Below w.heap.size w w1 := (hb.alloc hbs _).grown hg' (by simp; omega) (fun j hj => (hown.lt j hj).1)
        go_wp2
        go_roundw
        case rel => exact ⟨k + 1, by omega, by go_num, Buf.cut hown' (by rw [HN.out]; simp) (by rw [HN.out, cells_app]; rfl), hb1⟩
        case measure => simp [intOf]; omega
      · have hp' : plainB s[k] = false := by simpa using hp
        have hnext : quoteL (s.data.toList.take (k + 1)) = quoteL (s.data.toList.take k) ++ [37, hexU (s[k].toNat / 16), hexU (s[k].toNat % 16)] := by rw [hsn, quoteL_snoc]; simp [quote1, hp']
        have HN := Lib.hid hnext; clear hnext hsn hp
        have hu := s[k].toNat_lt
        go_wp2_with (first
          | (go_at_call 35; refine (refPlain_any _ _).mono ?_; rintro e w' ⟨rfl, rfl⟩))
        have hw16 : IntKind.u8.wrap ((s[k].toNat : Int) / 16) = (s[k].toNat : Int) / 16 := by rw [IntKind.wrap_u8]; omega
        have h16a : 0 ≤ (s[k].toNat : Int) / 16 := by omega
        have h16b : (s[k].toNat : Int) / 16 < 16 := by omega
        have hm16 : (s[k].toNat : Int).tmod 16 = (s[k].toNat : Int) % 16 := Int.tmod_eq_emod_of_nonneg (by omega)
        have hx16 : IntKind.u8.wrap ((s[k].toNat : Int) % 16) = (s[k].toNat : Int) % 16 := by rw [IntKind.wrap_u8]; omega
        have h15a : 0 ≤ (s[k].toNat : Int) % 16 := by omega
        have h15b : (s[k].toNat : Int) % 16 < 16 := by omega
        go_region_held3 (fun _ => True) (trivial) ((refine step_append_own rfl (.tmp 21) (.tmp 32) 37 rfl w.heap.size 5 i0 _ 1 1 Try.underlying37 hi hz0 hz1 hz2 rfl (by decide) _ _ _ rfl (World.ownsRow.alloc (World.ownsRow.drew hown) _) ⟨_, 0, none⟩ 3 3 [.int .u8 37, .int .u8 _, .int .u8 _] rfl rfl (new_cells _ #[_, _, _] _) (three_cells _ _ _) (by unfold maxLen; omega) (by omega) (by simp; omega) ?_; intro v' w1 hown' hg' hn'))
        all_goals
          have hb1 : Below w.heap.size w w1 := ((hb.drew).alloc hbs _).grown hg' (by simp; omega) (fun j hj => (hown.lt j hj).1)
          go_wp2
          go_roundw
          case rel => exact ⟨k + 1, by omega, by go_num, Buf.cut hown' (by rw [HN.out]; simp) (by rw [HN.out, cells_app]; exact congrArg _ (hex_cells s[k] _ _ rfl rfl _ _)), hb1⟩
          case measure => simp [intOf]; omega
    · have hke : k = s.size := by omega
      subst hke
      have hcv := hown.text
      go_wp2
      go_ret
      exact ⟨ret_str (by rw [take_all]), hb⟩
end Go.Proofs.Ytdogcnlcefklkaa
