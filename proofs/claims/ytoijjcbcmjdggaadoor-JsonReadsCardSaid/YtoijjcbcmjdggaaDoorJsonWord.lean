/- The reference's begins and word. -/
import Derived.Test.YtoijjcbcmjdggaaDoorJsonQuote
import Derived.Test.YtoijjcbcmjdggaaDoorJsonRead
import Derived.Test.YtoijjcbcmjdggaaDoorLeaf
namespace Go.Proofs.YtoijjcbcmjdggaaDoor
open Go.RowKit
set_option linter.unusedVariables false
set_option linter.unusedSimpArgs false

theorem begins_list (s t : ByteArray) : ((s.extract 0 t.size).toList == t.toList) = beginsB s.data.toList t.data.toList := by
  have e : (s.extract 0 t.size).data.toList = s.data.toList.take t.size := by simp [ByteArray.data_extract, List.extract]
  unfold beginsB
  rw [ByteArray.toList_eq, ByteArray.toList_eq, e]; rfl
theorem begins_short (s t : ByteArray) (h : s.size < t.size) : beginsB s.data.toList t.data.toList = false := by
  unfold beginsB
  have h1 : s.data.toList.length = s.size := rfl
  have h2 : t.data.toList.length = t.size := rfl
  rw [beq_eq_false_iff_ne]
  intro e
  have := congrArg List.length e
  rw [List.length_take] at this
  omega
set_option maxRecDepth 100000 in
theorem refBegins_any (s t : ByteArray) (w : World) :
    Calls Tryd.prog 49 #[.string s, .string t] w fun e w' => e = .returned (.bool (beginsB s.data.toList t.data.toList)) ∧ w = w' := by
  by_cases h : t.size ≤ s.size
  · have hd : decide ((t.size : Int) ≤ (s.size : Int)) = true := by simp; omega
    have hi : (t.size : Int) ≤ (s.size : Int) := by omega
    have he := begins_list s t
    have HE := Lib.hid he; clear he
    go_enter Tryd.func49, Tryd.ntmps49
    go_wp2
    go_ret
    exact ⟨ret_bool HE.out, rfl⟩
  · have hd : decide ((t.size : Int) ≤ (s.size : Int)) = false := by simp; omega
    rw [begins_short s t (by omega)]
    go_enter Tryd.func49, Tryd.ntmps49
    go_wp2
    go_ret
    exact ⟨rfl, rfl⟩
theorem hexJ_I (c : UInt8) : hexJ c = hexI c := by
  unfold hexJ hexI
  repeat' split
  all_goals first | rfl | omega
/-- what word answers -/
def WordSays (l : List UInt8) (e : Ending) : Prop := (∃ t n, wordT (l.drop 1) [] 1 = some (t, n) ∧ beginsB l [34] = true ∧ e = .returned (.tuple #[.string ⟨t.toArray⟩, .int .i64 (n : Int)])) ∨
  ((wordT (l.drop 1) [] 1 = none ∨ beginsB l [34] = false) ∧ e = .returned (.tuple #[.string ⟨#[]⟩, .int .i64 0]))
theorem wordT_stop (r acc : List UInt8) (n : Nat) : wordT (34 :: r) acc n = some (acc, n + 1) := by unfold wordT; simp
theorem wordT_plain (c : UInt8) (r acc : List UInt8) (n : Nat) (h1 : c ≠ 34) (h2 : c ≠ 92) : wordT (c :: r) acc n = wordT r (acc ++ [c]) (n + 1) := by
  conv => lhs; unfold wordT
  rw [if_neg h1, if_neg h2]
theorem wordT_esc (e : UInt8) (r acc : List UInt8) (n : Nat) (h : e = 34 ∨ e = 92) : wordT (92 :: e :: r) acc n = wordT r (acc ++ [e]) (n + 2) := by
  conv => lhs; unfold wordT
  rw [if_neg (by decide), if_pos rfl]
  simp only [h, if_true]
theorem wordT_none (e : UInt8) (r acc : List UInt8) (n : Nat) (h : ¬ (e = 34 ∨ e = 92)) (hr : r.length < 4) : wordT (92 :: e :: r) acc n = none := by
  unfold wordT
  rw [if_neg (by decide), if_pos rfl]
  simp only [h, if_false]
  match r, hr with
  | [], _ => rfl
  | [_], _ => rfl
  | [_, _], _ => rfl
  | [_, _, _], _ => rfl
theorem wordT_six (e x y h l : UInt8) (r acc : List UInt8) (n : Nat) (he : ¬ (e = 34 ∨ e = 92)) : wordT (92 :: e :: x :: y :: h :: l :: r) acc n =
    if e = 117 ∧ x = 48 ∧ y = 48 ∧ 0 ≤ hexJ h ∧ 0 ≤ hexJ l then wordT r (acc ++ [UInt8.ofNat (16 * hexJ h + hexJ l).toNat]) (n + 6) else none := by
  conv => lhs; unfold wordT
  rw [if_neg (by decide), if_pos rfl]
  simp only [he, if_false]
theorem hex_cell (x : Int) (h0 : 0 ≤ x) (h1 : x ≤ 255) : [Value.int .u8 (max x 0 % 256)] = cells [UInt8.ofNat x.toNat] := by
  show _ = [Value.int .u8 ((UInt8.ofNat x.toNat).toNat : Int)]
  rw [UInt8.toNat_ofNat']
  congr 2
  omega
set_option maxRecDepth 100000 in
set_option maxHeartbeats 1000000 in
theorem refWord_says (s : ByteArray) (hs : s.size ≤ 20000000000000) (w : World) :
    Calls Tryd.prog 50 #[.string s] w fun e w' => WordSays s.data.toList e ∧ Below w.heap.size w w' := by
  obtain ⟨i0, hi, hz0, hz1, hz2⟩ := info_parts Tryd.infoByte
  have hbg := refBegins_any s ⟨#[34]⟩
  have hq : (ByteArray.mk #[34]).data.toList = [34] := rfl
  rw [hq] at hbg
  have HBG := Lib.hid hbg; clear hbg hq
  have hsl : s.data.toList.length = s.size := rfl
  cases hb0 : beginsB s.data.toList [34] with
  | false =>
    rw [hb0] at HBG
    have HB0 := Lib.hid hb0; clear hb0
    go_enter Tryd.func50, Tryd.ntmps50
    go_wp2_with (go_at_call 49; with_reducible refine (HBG.out _).mono ?_; rintro e w' ⟨rfl, rfl⟩)
    go_ret2
    exact ⟨Or.inr ⟨Or.inr HB0.out, rfl⟩, Below.refl _ _⟩
  | true =>
    rw [hb0] at HBG
    have HB0 := Lib.hid hb0
    have h1 : 1 ≤ s.size := by
      rcases Nat.eq_zero_or_pos s.size with h | h
      · have : s.data.toList = [] := List.length_eq_zero_iff.1 (hsl.trans h)
        rw [this] at hb0; cases hb0
      · exact h
    clear hb0
    go_enter Tryd.func50, Tryd.ntmps50
    go_wp2_with (go_at_call 49; with_reducible refine (HBG.out _).mono ?_; rintro e w' ⟨rfl, rfl⟩)
    go_loopw [4, 5] (fun v i wr => ∃ (k : Nat) (acc : List UInt8), k ≤ s.size ∧ i = .int .i64 k ∧ acc.length ≤ k ∧ Buf wr w.heap.size v acc ∧ wordT (s.data.toList.drop k) acc k = wordT (s.data.toList.drop 1) [] 1 ∧ Below w.heap.size w wr) (fun _ i _ => s.size - (intOf i).toNat)
    case atStart => exact ⟨1, [], h1, rfl, by simp, ⟨rfl, Or.inl ⟨rfl, rfl⟩⟩, rfl, Below.refl _ _⟩
    case round =>
      obtain ⟨k, acc, hk, rfl, hal, hown, hw, hb⟩ := hrel
      have hbs := hb.size
      by_cases hlt : k < s.size
      · have hdk : s.data.toList.drop k = s[k] :: s.data.toList.drop (k + 1) := List.drop_eq_getElem_cons (by rw [hsl]; exact hlt)
        rw [hdk] at hw
        have hu := s[k].toNat_lt
        by_cases h34 : s[k] = 34
        · rw [h34, wordT_stop] at hw
          have t1 : ((s[k].toNat : Int) == 34) = true := by rw [h34]; rfl
          have hcv := hown.text
          have HW := Lib.hid hw; have H34 := Lib.hid h34; clear hw h34 hdk
          go_wp2
          go_ret2
          exact ⟨Or.inl ⟨acc, k + 1, HW.out.symm, HB0.out, rfl⟩, hb⟩
        · have h34n : s[k].toNat ≠ 34 := fun e => h34 (UInt8.toNat_inj.1 e)
          have t1 : ((s[k].toNat : Int) == 34) = false := by simp; omega
          by_cases h92 : s[k] = 92
          · have t2 : ((s[k].toNat : Int) == 92) = true := by rw [h92]; rfl
            rw [h92] at hw
            have H92 := Lib.hid h92; have H34 := Lib.hid h34; have H34n := Lib.hid h34n
            clear h92 h34 h34n hdk
            by_cases hx : k + 1 < s.size
            · have hdk2 : s.data.toList.drop (k + 1) = s[k + 1] :: s.data.toList.drop (k + 2) := List.drop_eq_getElem_cons (by rw [hsl]; exact hx)
              rw [hdk2] at hw
              have hu2 := s[k + 1].toNat_lt
              have g1 : decide ((k : Int) + 1 < (s.size : Int)) = true := by simp; omega
              by_cases he : s[k + 1] = 34 ∨ s[k + 1] = 92
              · rw [wordT_esc _ _ _ _ he] at hw
                have HW := Lib.hid hw; clear hw hdk2
                by_cases e34 : s[k + 1] = 34
                · have u1 : ((s[k + 1].toNat : Int) == 34) = true := by rw [e34]; rfl
                  have E34 := Lib.hid e34; have HE := Lib.hid he; clear e34 he
                  go_wp2_with (at_builtin; refine wpList_append_own _ rfl (.tmp 56) (.tmp 61) 45 rfl w.heap.size 5 i0 _ 1 1 Tryd.underlying45 hi hz0 hz1 hz2 rfl (by decide) _ _ _ rfl (World.ownsRow.alloc hown _) ⟨_, 0, none⟩ 1 1 [.int .u8 s[k + 1].toNat] rfl rfl (new_cells _ #[_] _) (one_cell _) (by unfold maxLen; omega) (by omega) (by simp; omega) ?_)
                  intro v' w1 hown' hg' _
                  have hb1 : Below w.heap.size w w1 := (hb.alloc hbs _).grown hg' (by simp; omega) (fun j hj => (hown.lt j hj).1)
                  go_wp2
                  go_roundw
                  case rel => exact ⟨k + 2, acc ++ [s[k + 1]], by omega, by go_num, by simp; omega, Buf.cut hown' (by simp) (by rw [cells_app]; rfl), HW.out, hb1⟩
                  case measure => simp [intOf]; omega
                · have e92 : s[k + 1] = 92 := by rcases he with h | h; exact absurd h e34; exact h
                  have u1 : ((s[k + 1].toNat : Int) == 34) = false := by rw [e92]; rfl
                  have u2 : ((s[k + 1].toNat : Int) == 92) = true := by rw [e92]; rfl
                  have E34 := Lib.hid e34; have E92 := Lib.hid e92; have HE := Lib.hid he; clear e34 e92 he
                  go_wp2_with (at_builtin; refine wpList_append_own _ rfl (.tmp 56) (.tmp 61) 45 rfl w.heap.size 5 i0 _ 1 1 Tryd.underlying45 hi hz0 hz1 hz2 rfl (by decide) _ _ _ rfl (World.ownsRow.alloc hown _) ⟨_, 0, none⟩ 1 1 [.int .u8 s[k + 1].toNat] rfl rfl (new_cells _ #[_] _) (one_cell _) (by unfold maxLen; omega) (by omega) (by simp; omega) ?_)
                  intro v' w1 hown' hg' _
                  have hb1 : Below w.heap.size w w1 := (hb.alloc hbs _).grown hg' (by simp; omega) (fun j hj => (hown.lt j hj).1)
                  go_wp2
                  go_roundw
                  case rel => exact ⟨k + 2, acc ++ [s[k + 1]], by omega, by go_num, by simp; omega, Buf.cut hown' (by simp) (by rw [cells_app]; rfl), HW.out, hb1⟩
                  case measure => simp [intOf]; omega
              · have e34 : s[k + 1].toNat ≠ 34 := fun e => he (Or.inl (UInt8.toNat_inj.1 e))
                have e92 : s[k + 1].toNat ≠ 92 := fun e => he (Or.inr (UInt8.toNat_inj.1 e))
                have u1 : ((s[k + 1].toNat : Int) == 34) = false := by simp; omega
                have u2 : ((s[k + 1].toNat : Int) == 92) = false := by simp; omega
                by_cases h5 : k + 5 < s.size
                · have hd4 : s.data.toList.drop (k + 2) = s[k + 2] :: s[k + 3] :: s[k + 4] :: s[k + 5] :: s.data.toList.drop (k + 6) := by
                    rw [List.drop_eq_getElem_cons (by rw [hsl]; omega), List.drop_eq_getElem_cons (by rw [hsl]; omega), List.drop_eq_getElem_cons (by rw [hsl]; omega), List.drop_eq_getElem_cons (by rw [hsl]; omega)]; rfl
                  have g5 : decide ((k : Int) + 5 < (s.size : Int)) = true := by simp; omega
                  rw [hd4, wordT_six _ _ _ _ _ _ _ _ he, hexJ_I, hexJ_I] at hw
                  have hsli : ∀ W, (Instr.slice 9 (.string s) (some (.int .i64 ((k : Int) + 1))) (some (.int .i64 ((k : Int) + 4))) none).run Tryd.prog W = .ok (.string (s.extract (k + 1) (k + 4))) W := fun W => by
                    rw [run_slice_string_lh W 9 s Tryd.underlying9 .i64 .i64 _ _ (by omega) (by omega) (by omega)]
                    rw [show ((k : Int) + 1).toNat = k + 1 by omega, show ((k : Int) + 4).toNat = k + 4 by omega]
                  have hex3 : (s.extract (k + 1) (k + 4)).toList = [s[k + 1], s[k + 2], s[k + 3]] := by
                    rw [ByteArray.toList_eq, ByteArray.data_extract, Array.toList_extract, List.extract]
                    rw [List.drop_eq_getElem_cons (by rw [hsl]; omega), List.drop_eq_getElem_cons (by rw [hsl]; omega), List.drop_eq_getElem_cons (by rw [hsl]; omega)]
                    rw [show k + 4 - (k + 1) = 3 by omega]; rfl
                  by_cases hu3 : s[k + 1] = 117 ∧ s[k + 2] = 48 ∧ s[k + 3] = 48
                  · have v1 : ((s.extract (k + 1) (k + 4)).toList == [117, 48, 48]) = true := by
                      rw [hex3, hu3.1, hu3.2.1, hu3.2.2]; rfl
                    by_cases x4 : 0 ≤ hexI s[k + 4]
                    · by_cases x5 : 0 ≤ hexI s[k + 5]
                      · have y4 : decide (0 ≤ hexI s[k + 4]) = true := by simp [x4]
                        have y5 : decide (0 ≤ hexI s[k + 5]) = true := by simp [x5]
                        rw [if_pos ⟨hu3.1, hu3.2.1, hu3.2.2, x4, x5⟩] at hw
                        have z4 := hexI_spec s[k + 4]
                        have z5 := hexI_spec s[k + 5]
                        have b4 : hexI s[k + 4] ≤ 15 := by omega
                        have b5 : hexI s[k + 5] ≤ 15 := by omega
                        have hval : IntKind.u8.wrap (16 * hexI s[k + 4] + hexI s[k + 5]) = ((UInt8.ofNat (16 * hexI s[k + 4] + hexI s[k + 5]).toNat).toNat : Int) := by
                          rw [IntKind.wrap_u8, UInt8.toNat_ofNat']; omega
                        have HW := Lib.hid hw; have HE := Lib.hid he; have HU3 := Lib.hid hu3; have HV := Lib.hid hval
                        clear hw hdk2 he hd4 hex3 hu3 z4 z5 hval
                        go_wp2_with (go_at_call 63; with_reducible refine (hex_any _ _).mono ?_; rintro e w' ⟨rfl, rfl⟩)
                        have w4 : IntKind.i64.wrap ((k : Int) + 4) = (k : Int) + 4 := by rw [IntKind.wrap_i64]; omega
                        have w5 : IntKind.i64.wrap ((k : Int) + 5) = (k : Int) + 5 := by rw [IntKind.wrap_i64]; omega
                        have i4 : ∀ W, (Instr.index 9 (.string s) (.int .i64 ((k : Int) + 4))).run Tryd.prog W = .ok (.int .u8 (s[k + 4].toNat : Int)) W := fun W => by
                          have := run_index_string (P := Tryd.prog) (w := W) 9 s .i64 ((k : Int) + 4) Tryd.underlying9
                          rw [dif_pos (by omega)] at this
                          rw [this]; rfl
                        have i5 : ∀ W, (Instr.index 9 (.string s) (.int .i64 ((k : Int) + 5))).run Tryd.prog W = .ok (.int .u8 (s[k + 5].toNat : Int)) W := fun W => by
                          have := run_index_string (P := Tryd.prog) (w := W) 9 s .i64 ((k : Int) + 5) Tryd.underlying9
                          rw [dif_pos (by omega)] at this
                          rw [this]; rfl
                        have e3 : IntKind.i64.wrap (16 * hexI s[k + 4]) = 16 * hexI s[k + 4] := IntWalk.i64_in _ (by omega)
                        have e4 : IntKind.i64.wrap (16 * hexI s[k + 4] + hexI s[k + 5]) = 16 * hexI s[k + 4] + hexI s[k + 5] := IntWalk.i64_in _ (by omega)
                        have e5 := HV.out
                        go_region_held3 (fun _ => True) (trivial) (first | (go_at_call 63; with_reducible refine (hex_any _ _).mono ?_; rintro e w' ⟨rfl, rfl⟩) | (refine step_append_own rfl (.tmp 102) (.tmp 116) 45 rfl w.heap.size 5 i0 _ 1 1 Tryd.underlying45 hi hz0 hz1 hz2 rfl (by decide) _ _ _ rfl (World.ownsRow.alloc (World.ownsRow.drew hown) _) ⟨_, 0, none⟩ 1 1 [.int .u8 _] rfl rfl (new_cells _ #[_] _) (one_cell _) (by unfold maxLen; omega) (by omega) (by simp; omega) ?_; intro v' w1 hown' hg' hn'))
                        all_goals
                          have hb1 : Below w.heap.size w w1 := ((hb.alloc hbs _).drew).grown hg' (by simp; omega) (fun j hj => (hown.lt j hj).1)
                          clear hg' hn'
                          go_wp2
                          go_roundw
                          case rel => exact ⟨k + 6, acc ++ [UInt8.ofNat (16 * hexI s[k + 4] + hexI s[k + 5]).toNat], by omega, by go_num, by simp; omega, Buf.cut hown' (by simp) (by rw [cells_app]; exact congrArg _ (hex_cell _ (by omega) (by omega))), HW.out, hb1⟩
                          case measure => simp [intOf]; omega
                      · have y4 : decide (0 ≤ hexI s[k + 4]) = true := by simp [x4]
                        have y5 : decide (0 ≤ hexI s[k + 5]) = false := by simp [x5]
                        rw [if_neg (fun h => x5 h.2.2.2.2)] at hw
                        have HW := Lib.hid hw.symm; have HE := Lib.hid he; have HU3 := Lib.hid hu3
                        clear hw hdk2 he hd4 hex3 hu3
                        go_wp2_with (go_at_call 63; with_reducible refine (hex_any _ _).mono ?_; rintro e w' ⟨rfl, rfl⟩)
                        go_ret2
                        exact ⟨Or.inr ⟨Or.inl HW.out, rfl⟩, hb⟩
                    · have y4 : decide (0 ≤ hexI s[k + 4]) = false := by simp [x4]
                      rw [if_neg (fun h => x4 h.2.2.2.1)] at hw
                      have HW := Lib.hid hw.symm; have HE := Lib.hid he; have HU3 := Lib.hid hu3
                      clear hw hdk2 he hd4 hex3 hu3
                      go_wp2_with (go_at_call 63; with_reducible refine (hex_any _ _).mono ?_; rintro e w' ⟨rfl, rfl⟩)
                      go_ret2
                      exact ⟨Or.inr ⟨Or.inl HW.out, rfl⟩, hb⟩
                  · have v1 : ((s.extract (k + 1) (k + 4)).toList == [117, 48, 48]) = false := by
                      rw [hex3]; simp; intro a b c; exact hu3 ⟨a, b, c⟩
                    rw [if_neg (fun h => hu3 ⟨h.1, h.2.1, h.2.2.1⟩)] at hw
                    have HW := Lib.hid hw.symm; have HE := Lib.hid he; have HU3 := Lib.hid hu3
                    clear hw hdk2 he hd4 hex3 hu3
                    go_wp2
                    go_ret2
                    exact ⟨Or.inr ⟨Or.inl HW.out, rfl⟩, hb⟩
                · rw [wordT_none _ _ _ _ he (by rw [List.length_drop, hsl]; omega)] at hw
                  have g5 : decide ((k : Int) + 5 < (s.size : Int)) = false := by simp; omega
                  have HW := Lib.hid hw.symm; have HE := Lib.hid he; clear hw hdk2 he
                  go_wp2
                  go_ret2
                  exact ⟨Or.inr ⟨Or.inl HW.out, rfl⟩, hb⟩
            · have hke : s.size = k + 1 := by omega
              have hdk2 : s.data.toList.drop (k + 1) = [] := List.drop_of_length_le (by rw [hsl, hke]; exact Nat.le_refl _)
              rw [hdk2] at hw
              have hw' : wordT (s.data.toList.drop 1) [] 1 = none := by rw [← hw]; unfold wordT; rw [if_neg (by decide), if_pos rfl]
              have HW := Lib.hid hw'; clear hw hw' hdk2 hke
              have g1 : decide ((k : Int) + 1 < (s.size : Int)) = false := by simp; omega
              have g5 : decide ((k : Int) + 5 < (s.size : Int)) = false := by simp; omega
              go_wp2
              go_ret2
              exact ⟨Or.inr ⟨Or.inl HW.out, rfl⟩, hb⟩
          · have h92n : s[k].toNat ≠ 92 := fun e => h92 (UInt8.toNat_inj.1 e)
            have t2 : ((s[k].toNat : Int) == 92) = false := by simp; omega
            rw [wordT_plain _ _ _ _ h34 h92] at hw
            have HW := Lib.hid hw; have H34 := Lib.hid h34; have H92 := Lib.hid h92; clear hw h34 h92 hdk h34n h92n
            go_wp2_with (at_builtin; refine wpList_append_own _ rfl (.tmp 15) (.tmp 19) 45 rfl w.heap.size 5 i0 _ 1 1 Tryd.underlying45 hi hz0 hz1 hz2 rfl (by decide) _ _ _ rfl (World.ownsRow.alloc hown _) ⟨_, 0, none⟩ 1 1 [.int .u8 s[k].toNat] rfl rfl (new_cells _ #[_] _) (one_cell _) (by unfold maxLen; omega) (by omega) (by simp; omega) ?_)
            intro v' w1 hown' hg' _
            have hb1 : Below w.heap.size w w1 := (hb.alloc hbs _).grown hg' (by simp; omega) (fun j hj => (hown.lt j hj).1)
            go_wp2
            go_roundw
            case rel => exact ⟨k + 1, acc ++ [s[k]], by omega, by go_num, by simp; omega, Buf.cut hown' (by simp) (by rw [cells_app]; rfl), HW.out, hb1⟩
            case measure => simp [intOf]; omega
      · have hke : k = s.size := by omega
        subst hke
        rw [List.drop_of_length_le (by rw [hsl]; exact Nat.le_refl _)] at hw
        have hw' : wordT (s.data.toList.drop 1) [] 1 = none := by rw [← hw]; unfold wordT; rfl
        have HW := Lib.hid hw'; clear hw hw'
        go_wp2
        go_ret2
        exact ⟨Or.inr ⟨Or.inl HW.out, rfl⟩, hb⟩
end Go.Proofs.YtoijjcbcmjdggaaDoor
