/- The reference's Unquote. -/
import Derived.Test.YthinbheplcameaaUnquote
namespace Go.Proofs.Ythinbheplcameaa
open Go.RowKit

/-- what the reference answers -/
def RefUnqSays (l : List UInt8) (e : Ending) : Prop :=
  (∃ o, unq l = some o ∧ e = .returned (.tuple #[.string ⟨o.toArray⟩, .bool true])) ∨ (unq l = none ∧ e = .returned (.tuple #[.string ⟨#[]⟩, .bool false]))

set_option maxHeartbeats 1000000 in
set_option maxRecDepth 100000 in
theorem refUnquote_says (s : ByteArray) (hs : s.size ≤ 140737488351232) (w : World) :
    Calls Try.prog 24 #[.string s] w fun e w' => RefUnqSays s.data.toList e ∧ Below w.heap.size w w' := by
  obtain ⟨i0, hi, hz0, hz1, hz2⟩ := info_parts Try.infoByte
  go_enter Try.func24, Try.ntmps24
  go_wp2
  go_loopw [4, 5] (fun v i wr => ∃ (k : Nat) (acc : List UInt8), k ≤ s.size ∧ i = .int .i64 k ∧ Buf wr w.heap.size v acc ∧ acc.length ≤ k ∧ UnqAt s.data.toList k acc ∧ Below w.heap.size w wr) (fun _ i _ => s.size - (intOf i).toNat)
  case atStart => exact ⟨0, [], Nat.zero_le _, rfl, World.ownsRow_nil _ _ _ _, Nat.zero_le _, unqAt_start _, Below.refl _ _⟩
  case round =>
    obtain ⟨k, acc, hk, rfl, hown, hal, hat, hb⟩ := hrel
    have HA := Lib.hid hat; clear hat
    have hbs := hb.size
    by_cases hlt : k < s.size
    · by_cases h43 : s[k].toNat = 43
      · have c43 : ((s[k].toNat : Int) == 43) = true := by simp; omega
        have c37 : ((s[k].toNat : Int) == 37) = false := by simp; omega
        have H43 := Lib.hid h43; clear h43
        go_wp2_with (at_builtin; refine wpList_append_own _ rfl (.tmp 58) (.tmp 60) 31 rfl w.heap.size 5 i0 _ 1 1 Try.underlying31 hi hz0 hz1 hz2 rfl (by decide) _ _ _ rfl (World.ownsRow.alloc hown _) ⟨_, 0, none⟩ 1 1 [.int .u8 32] rfl rfl (new_cells _ #[_] _) (one_cell _) (by unfold maxLen; omega) (by omega) (by simp; omega) ?_)
        intro v' w1 hown' hg' _
        have hb1 : Below w.heap.size w w1 := (hb.alloc hbs _).grown hg' (by simp; omega) (fun j hj => (hown.lt j hj).1)
        go_wp2
        go_roundw
        case rel => exact ⟨k + 1, acc ++ [32], by omega, by go_num, Buf.cut hown' (by simp) (by rw [cells_app]; rfl), by simp; omega, unqAt_plus HA.out hlt H43.out, hb1⟩
        case measure => simp [intOf]; omega
      · have c43 : ((s[k].toNat : Int) == 43) = false := by simp; omega
        have H43 := Lib.hid h43; clear h43
        by_cases h37 : s[k].toNat = 37
        · have c37 : ((s[k].toNat : Int) == 37) = true := by simp; omega
          have H37 := Lib.hid h37; clear h37
          by_cases h2 : k + 2 < s.size
          · have b1 := hexI_bd s[k + 1]
            have b2 := hexI_bd s[k + 2]
            by_cases hd1 : hexI s[k + 1] < 0
            · go_wp2_with (go_at_call 40; refine (hex_any _ _).mono ?_; rintro e w' ⟨rfl, rfl⟩)
              go_ret2
              exact ⟨Or.inr ⟨unqAt_bad HA.out h2 H37.out (Or.inl (by simp [digB]; exact hd1)), rfl⟩, hb⟩
            · by_cases hd2 : hexI s[k + 2] < 0
              · go_wp2_with (go_at_call 40; refine (hex_any _ _).mono ?_; rintro e w' ⟨rfl, rfl⟩)
                go_ret2
                exact ⟨Or.inr ⟨unqAt_bad HA.out h2 H37.out (Or.inr (by simp [digB]; exact hd2)), rfl⟩, hb⟩
              · have g1 : digB s[k + 1] = true := by simp [digB]; omega
                have g2 : digB s[k + 2] = true := by simp [digB]; omega
                have hby : ((hexByte s[k + 1] s[k + 2]).toNat : Int) = 16 * hexI s[k + 1] + hexI s[k + 2] := by
                  rw [hexByte_toNat, (digN_of g1).1, (digN_of g2).1]
                have G := Lib.hid (And.intro g1 g2); clear g1 g2
                have HBY := Lib.hid hby; clear hby
                go_wp2_with (go_at_call 40; refine (hex_any _ _).mono ?_; rintro e w' ⟨rfl, rfl⟩)
                have e3 : IntKind.i64.wrap (16 * hexI s[k + 1]) = 16 * hexI s[k + 1] := IntWalk.i64_in _ (by omega)
                have e4 : IntKind.i64.wrap (16 * hexI s[k + 1] + hexI s[k + 2]) = 16 * hexI s[k + 1] + hexI s[k + 2] := IntWalk.i64_in _ (by omega)
                have e5 : IntKind.u8.wrap (16 * hexI s[k + 1] + hexI s[k + 2]) = ((hexByte s[k + 1] s[k + 2]).toNat : Int) := by rw [HBY.out, IntKind.wrap_u8]; omega
                have p1 : (0 : Int) ≤ (k : Int) + 1 := by omega
                have p2 : (0 : Int) ≤ (k : Int) + 2 := by omega
                have q1 : (k : Int) + 1 < s.size := by omega
                have q2 : (k : Int) + 2 < s.size := by omega
                have e1 : IntKind.i64.wrap ((k : Int) + 1) = (k : Int) + 1 := IntWalk.i64_in _ (by omega)
                have e2 : IntKind.i64.wrap ((k : Int) + 2) = (k : Int) + 2 := IntWalk.i64_in _ (by omega)
                have t1 : ((k : Int) + 1).toNat = k + 1 := by omega
                have t2 : ((k : Int) + 2).toNat = k + 2 := by omega
                go_quiet ((go_at_call 40; exact Calls.quiet_of_same (hex_quiet _ _)))
                clear e1 e2 e3 e4 e5
                have hown2 : Buf (wr.drewN nq) w.heap.size _ acc := hown
                have hb2 : Below w.heap.size w (wr.drewN nq) := ⟨hb.os, hb.tape, hb.output, hb.size, hb.block⟩
                generalize wr.drewN nq = w2 at hown2 hb2 ⊢
                have hbs2 := hb2.size
                go_wp2_with (at_builtin; go_loud (refine wpList_append_own _ rfl (.tmp 58) (.tmp 60) 31 rfl w.heap.size 5 i0 _ 1 1 Try.underlying31 hi hz0 hz1 hz2 rfl (by decide) _ _ _ rfl (World.ownsRow.alloc hown2 _) ⟨_, 0, none⟩ 1 1 [.int .u8 (hexByte s[k + 1] s[k + 2]).toNat] rfl rfl (new_cells _ #[_] _) (one_cell _) (by unfold maxLen; omega) (by omega) (by simp; omega) ?_))
                intro v' w1 hown' hg' _
                have hb1 : Below w.heap.size w w1 := (hb2.alloc hbs2 _).grown hg' (by simp; omega) (fun j hj => (hown2.lt j hj).1)
                go_wp2
                go_roundw
                case rel => exact ⟨k + 3, acc ++ [hexByte s[k + 1] s[k + 2]], by omega, by go_num, Buf.cut hown' (by simp) (by rw [cells_app]; rfl), by simp; omega, unqAt_hex HA.out h2 H37.out G.out.1 G.out.2, hb1⟩
                case measure => simp [intOf]; omega
          · go_wp2_with fail
            go_ret2
            exact ⟨Or.inr ⟨unqAt_short HA.out hlt (by show s.size ≤ k + 2; omega) H37.out, rfl⟩, hb⟩
        · have c37 : ((s[k].toNat : Int) == 37) = false := by simp; omega
          have H37 := Lib.hid h37; clear h37
          go_wp2_with (at_builtin; refine wpList_append_own _ rfl (.tmp 58) (.tmp 60) 31 rfl w.heap.size 5 i0 _ 1 1 Try.underlying31 hi hz0 hz1 hz2 rfl (by decide) _ _ _ rfl (World.ownsRow.alloc hown _) ⟨_, 0, none⟩ 1 1 [.int .u8 s[k].toNat] rfl rfl (new_cells _ #[_] _) (one_cell _) (by unfold maxLen; omega) (by omega) (by simp; omega) ?_)
          intro v' w1 hown' hg' _
          have hb1 : Below w.heap.size w w1 := (hb.alloc hbs _).grown hg' (by simp; omega) (fun j hj => (hown.lt j hj).1)
          go_wp2
          go_roundw
          case rel => exact ⟨k + 1, acc ++ [s[k]], by omega, by go_num, Buf.cut hown' (by simp) (by rw [cells_app]; rfl), by simp; omega, unqAt_same HA.out hlt H43.out H37.out, hb1⟩
          case measure => simp [intOf]; omega
    · have hke : k = s.size := by omega
      subst hke
      have hcv := hown.text
      go_wp2
      go_ret2
      exact ⟨Or.inl ⟨acc, unqAt_end HA.out, rfl⟩, hb⟩
end Go.Proofs.Ythinbheplcameaa
