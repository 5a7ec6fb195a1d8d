/- Texts merged by program, in build order: JsonWord, JsonRMany. -/
import Derived.Test.YtcbajbpdgmmaeaaDoorC03
import Derived.Test.YtcbajbpdgmmaeaaDoorC02
import Derived.Test.YtcbajbpdgmmaeaaDoorC08
import Derived.Test.YtcbajbpdgmmaeaaDoorC13
namespace Go.Proofs.YtcbajbpdgmmaeaaDoor
open Go.RowKit
set_option linter.unusedVariables false
set_option linter.unusedSimpArgs false

theorem begins_list (s t : ByteArray) : ((s.extract 0 t.size).toList == t.toList) = beginsB s.data.toList t.data.toList := by
  have e : (s.extract 0 t.size).data.toList = s.data.toList.take t.size := by simp [ByteArray.data_extract, List.extract]
  unfold beginsB
  rw [ByteArray.toList_eq, ByteArray.toList_eq, e]; rfl
theorem begins_short (s t : ByteArray) (h : s.size < t.size) : beginsB s.data.toList t.data.toList = false := by
  unfold beginsB
  have h1 : s.data.toList.length = s.size := rfl
  have h2 : t.data.toList.length = t.size := rfl
  rw [beq_eq_false_iff_ne]
  intro e
  have := congrArg List.length e
  rw [List.length_take] at this
  omega
set_option maxRecDepth 100000 in
theorem refBegins_any (s t : ByteArray) (w : World) :
    Calls Tryd.prog 48 #[.string s, .string t] w fun e w' => e = .returned (.bool (beginsB s.data.toList t.data.toList)) ∧ w = w' := by
  by_cases h : t.size ≤ s.size
  · have hd : decide ((t.size : Int) ≤ (s.size : Int)) = true := by simp; omega
    have hi : (t.size : Int) ≤ (s.size : Int) := by omega
    have he := begins_list s t
    have HE := Lib.hid he; clear he
    go_enter Tryd.func48, Tryd.ntmps48
    go_wp2
    go_ret
    exact ⟨ret_bool HE.out, rfl⟩
  · have hd : decide ((t.size : Int) ≤ (s.size : Int)) = false := by simp; omega
    rw [begins_short s t (by omega)]
    go_enter Tryd.func48, Tryd.ntmps48
    go_wp2
    go_ret
    exact ⟨rfl, rfl⟩
theorem hexJ_I (c : UInt8) : hexJ c = hexI c := by
  unfold hexJ hexI
  repeat' split
  all_goals first | rfl | omega
/-- what word answers -/
def WordSays (l : List UInt8) (e : Ending) : Prop := (∃ t n, wordT (l.drop 1) [] 1 = some (t, n) ∧ beginsB l [34] = true ∧ e = .returned (.tuple #[.string ⟨t.toArray⟩, .int .i64 (n : Int)])) ∨
  ((wordT (l.drop 1) [] 1 = none ∨ beginsB l [34] = false) ∧ e = .returned (.tuple #[.string ⟨#[]⟩, .int .i64 0]))
theorem wordT_stop (r acc : List UInt8) (n : Nat) : wordT (34 :: r) acc n = some (acc, n + 1) := by unfold wordT; simp
theorem wordT_plain (c : UInt8) (r acc : List UInt8) (n : Nat) (h1 : c ≠ 34) (h2 : c ≠ 92) : wordT (c :: r) acc n = wordT r (acc ++ [c]) (n + 1) := by
  conv => lhs; unfold wordT
  rw [if_neg h1, if_neg h2]
theorem wordT_esc (e : UInt8) (r acc : List UInt8) (n : Nat) (h : e = 34 ∨ e = 92) : wordT (92 :: e :: r) acc n = wordT r (acc ++ [e]) (n + 2) := by
  conv => lhs; unfold wordT
  rw [if_neg (by decide), if_pos rfl]
  simp only [h, if_true]
theorem wordT_none (e : UInt8) (r acc : List UInt8) (n : Nat) (h : ¬ (e = 34 ∨ e = 92)) (hr : r.length < 4) : wordT (92 :: e :: r) acc n = none := by
  unfold wordT
  rw [if_neg (by decide), if_pos rfl]
  simp only [h, if_false]
  match r, hr with
  | [], _ => rfl
  | [_], _ => rfl
  | [_, _], _ => rfl
  | [_, _, _], _ => rfl
theorem wordT_six (e x y h l : UInt8) (r acc : List UInt8) (n : Nat) (he : ¬ (e = 34 ∨ e = 92)) : wordT (92 :: e :: x :: y :: h :: l :: r) acc n =
    if e = 117 ∧ x = 48 ∧ y = 48 ∧ 0 ≤ hexJ h ∧ 0 ≤ hexJ l then wordT r (acc ++ [UInt8.ofNat (16 * hexJ h + hexJ l).toNat]) (n + 6) else none := by
  conv => lhs; unfold wordT
  rw [if_neg (by decide), if_pos rfl]
  simp only [he, if_false]
theorem hex_cell (x : Int) (h0 : 0 ≤ x) (h1 : x ≤ 255) : [Value.int .u8 (max x 0 % 256)] = cells [UInt8.ofNat x.toNat] := by
  show _ = [Value.int .u8 ((UInt8.ofNat x.toNat).toNat : Int)]
  rw [UInt8.toNat_ofNat']
  congr 2
  omega
set_option maxRecDepth 100000 in
set_option maxHeartbeats 1000000 in
theorem refWord_says (s : ByteArray) (hs : s.size ≤ 20000000000000) (w : World) :
    Calls Tryd.prog 49 #[.string s] w fun e w' => WordSays s.data.toList e ∧ Below w.heap.size w w' := by
  obtain ⟨i0, hi, hz0, hz1, hz2⟩ := info_parts Tryd.infoByte
  have hbg := refBegins_any s ⟨#[34]⟩
  have hq : (ByteArray.mk #[34]).data.toList = [34] := rfl
  rw [hq] at hbg
  have HBG := Lib.hid hbg; clear hbg hq
  have hsl : s.data.toList.length = s.size := rfl
  cases hb0 : beginsB s.data.toList [34] with
  | false =>
    rw [hb0] at HBG
    have HB0 := Lib.hid hb0; clear hb0
    go_enter Tryd.func49, Tryd.ntmps49
    go_wp2_with (go_at_call 48; with_reducible refine (HBG.out _).mono ?_; rintro e w' ⟨rfl, rfl⟩)
    go_ret2
    exact ⟨Or.inr ⟨Or.inr HB0.out, rfl⟩, Below.refl _ _⟩
  | true =>
    rw [hb0] at HBG
    have HB0 := Lib.hid hb0
    have h1 : 1 ≤ s.size := by
      rcases Nat.eq_zero_or_pos s.size with h | h
      · have : s.data.toList = [] := List.length_eq_zero_iff.1 (hsl.trans h)
        rw [this] at hb0; cases hb0
      · exact h
    clear hb0
    go_enter Tryd.func49, Tryd.ntmps49
    go_wp2_with (go_at_call 48; with_reducible refine (HBG.out _).mono ?_; rintro e w' ⟨rfl, rfl⟩)
    go_loopw [4, 5] (fun v i wr => ∃ (k : Nat) (acc : List UInt8), k ≤ s.size ∧ i = .int .i64 k ∧ acc.length ≤ k ∧ Buf wr w.heap.size v acc ∧ wordT (s.data.toList.drop k) acc k = wordT (s.data.toList.drop 1) [] 1 ∧ Below w.heap.size w wr) (fun _ i _ => s.size - (intOf i).toNat)
    case atStart => exact ⟨1, [], h1, rfl, by simp, ⟨rfl, Or.inl ⟨rfl, rfl⟩⟩, rfl, Below.refl _ _⟩
    case round =>
      obtain ⟨k, acc, hk, rfl, hal, hown, hw, hb⟩ := hrel
      have hbs := hb.size
      by_cases hlt : k < s.size
      · have hdk : s.data.toList.drop k = s[k] :: s.data.toList.drop (k + 1) := List.drop_eq_getElem_cons (by rw [hsl]; exact hlt)
        rw [hdk] at hw
        have hu := s[k].toNat_lt
        by_cases h34 : s[k] = 34
        · rw [h34, wordT_stop] at hw
          have t1 : ((s[k].toNat : Int) == 34) = true := by rw [h34]; rfl
          have hcv := hown.text
          have HW := Lib.hid hw; have H34 := Lib.hid h34; clear hw h34 hdk
          go_wp2
          go_ret2
          exact ⟨Or.inl ⟨acc, k + 1, HW.out.symm, HB0.out, rfl⟩, hb⟩
        · have h34n : s[k].toNat ≠ 34 := fun e => h34 (UInt8.toNat_inj.1 e)
          have t1 : ((s[k].toNat : Int) == 34) = false := by simp; omega
          by_cases h92 : s[k] = 92
          · have t2 : ((s[k].toNat : Int) == 92) = true := by rw [h92]; rfl
            rw [h92] at hw
            have H92 := Lib.hid h92; have H34 := Lib.hid h34; have H34n := Lib.hid h34n
            clear h92 h34 h34n hdk
            by_cases hx : k + 1 < s.size
            · have hdk2 : s.data.toList.drop (k + 1) = s[k + 1] :: s.data.toList.drop (k + 2) := List.drop_eq_getElem_cons (by rw [hsl]; exact hx)
              rw [hdk2] at hw
              have hu2 := s[k + 1].toNat_lt
              have g1 : decide ((k : Int) + 1 < (s.size : Int)) = true := by simp; omega
              by_cases he : s[k + 1] = 34 ∨ s[k + 1] = 92
              · rw [wordT_esc _ _ _ _ he] at hw
                have HW := Lib.hid hw; clear hw hdk2
                by_cases e34 : s[k + 1] = 34
                · have u1 : ((s[k + 1].toNat : Int) == 34) = true := by rw [e34]; rfl
                  have E34 := Lib.hid e34; have HE := Lib.hid he; clear e34 he
                  go_wp2_with (at_builtin; refine wpList_append_own _ rfl (.tmp 56) (.tmp 61) 79 rfl w.heap.size 5 i0 _ 1 1 Tryd.underlying79 hi hz0 hz1 hz2 rfl (by decide) _ _ _ rfl (World.ownsRow.alloc hown _) ⟨_, 0, none⟩ 1 1 [.int .u8 s[k + 1].toNat] rfl rfl (new_cells _ #[_] _) (one_cell _) (by unfold maxLen; omega) (by omega) (by simp; omega) ?_)
                  intro v' w1 hown' hg' _
                  have hb1 : Below w.heap.size w w1 := (hb.alloc hbs _).grown hg' (by simp; omega) (fun j hj => (hown.lt j hj).1)
                  go_wp2
                  go_roundw
                  case rel => exact ⟨k + 2, acc ++ [s[k + 1]], by omega, by go_num, by simp; omega, Buf.cut hown' (by simp) (by rw [cells_app]; rfl), HW.out, hb1⟩
                  case measure => simp [intOf]; omega
                · have e92 : s[k + 1] = 92 := by rcases he with h | h; exact absurd h e34; exact h
                  have u1 : ((s[k + 1].toNat : Int) == 34) = false := by rw [e92]; rfl
                  have u2 : ((s[k + 1].toNat : Int) == 92) = true := by rw [e92]; rfl
                  have E34 := Lib.hid e34; have E92 := Lib.hid e92; have HE := Lib.hid he; clear e34 e92 he
                  go_wp2_with (at_builtin; refine wpList_append_own _ rfl (.tmp 56) (.tmp 61) 79 rfl w.heap.size 5 i0 _ 1 1 Tryd.underlying79 hi hz0 hz1 hz2 rfl (by decide) _ _ _ rfl (World.ownsRow.alloc hown _) ⟨_, 0, none⟩ 1 1 [.int .u8 s[k + 1].toNat] rfl rfl (new_cells _ #[_] _) (one_cell _) (by unfold maxLen; omega) (by omega) (by simp; omega) ?_)
                  intro v' w1 hown' hg' _
                  have hb1 : Below w.heap.size w w1 := (hb.alloc hbs _).grown hg' (by simp; omega) (fun j hj => (hown.lt j hj).1)
                  go_wp2
                  go_roundw
                  case rel => exact ⟨k + 2, acc ++ [s[k + 1]], by omega, by go_num, by simp; omega, Buf.cut hown' (by simp) (by rw [cells_app]; rfl), HW.out, hb1⟩
                  case measure => simp [intOf]; omega
              · have e34 : s[k + 1].toNat ≠ 34 := fun e => he (Or.inl (UInt8.toNat_inj.1 e))
                have e92 : s[k + 1].toNat ≠ 92 := fun e => he (Or.inr (UInt8.toNat_inj.1 e))
                have u1 : ((s[k + 1].toNat : Int) == 34) = false := by simp; omega
                have u2 : ((s[k + 1].toNat : Int) == 92) = false := by simp; omega
                by_cases h5 : k + 5 < s.size
                · have hd4 : s.data.toList.drop (k + 2) = s[k + 2] :: s[k + 3] :: s[k + 4] :: s[k + 5] :: s.data.toList.drop (k + 6) := by
                    rw [List.drop_eq_getElem_cons (by rw [hsl]; omega), List.drop_eq_getElem_cons (by rw [hsl]; omega), List.drop_eq_getElem_cons (by rw [hsl]; omega), List.drop_eq_getElem_cons (by rw [hsl]; omega)]; rfl
                  have g5 : decide ((k : Int) + 5 < (s.size : Int)) = true := by simp; omega
                  rw [hd4, wordT_six _ _ _ _ _ _ _ _ he, hexJ_I, hexJ_I] at hw
                  have hsli : ∀ W, (Instr.slice 9 (.string s) (some (.int .i64 ((k : Int) + 1))) (some (.int .i64 ((k : Int) + 4))) none).run Tryd.prog W = .ok (.string (s.extract (k + 1) (k + 4))) W := fun W => by
                    rw [run_slice_string_lh W 9 s Tryd.underlying9 .i64 .i64 _ _ (by omega) (by omega) (by omega)]
                    rw [show ((k : Int) + 1).toNat = k + 1 by omega, show ((k : Int) + 4).toNat = k + 4 by omega]
                  have hex3 : (s.extract (k + 1) (k + 4)).toList = [s[k + 1], s[k + 2], s[k + 3]] := by
                    rw [ByteArray.toList_eq, ByteArray.data_extract, Array.toList_extract, List.extract]
                    rw [List.drop_eq_getElem_cons (by rw [hsl]; omega), List.drop_eq_getElem_cons (by rw [hsl]; omega), List.drop_eq_getElem_cons (by rw [hsl]; omega)]
                    rw [show k + 4 - (k + 1) = 3 by omega]; rfl
                  by_cases hu3 : s[k + 1] = 117 ∧ s[k + 2] = 48 ∧ s[k + 3] = 48
                  · have v1 : ((s.extract (k + 1) (k + 4)).toList == [117, 48, 48]) = true := by
                      rw [hex3, hu3.1, hu3.2.1, hu3.2.2]; rfl
                    by_cases x4 : 0 ≤ hexI s[k + 4]
                    · by_cases x5 : 0 ≤ hexI s[k + 5]
                      · have y4 : decide (0 ≤ hexI s[k + 4]) = true := by simp [x4]
                        have y5 : decide (0 ≤ hexI s[k + 5]) = true := by simp [x5]
                        rw [if_pos ⟨hu3.1, hu3.2.1, hu3.2.2, x4, x5⟩] at hw
                        have z4 := hexI_spec s[k + 4]
                        have z5 := hexI_spec s[k + 5]
                        have b4 : hexI s[k + 4] ≤ 15 := by omega
                        have b5 : hexI s[k + 5] ≤ 15 := by omega
                        have hval : IntKind.u8.wrap (16 * hexI s[k + 4] + hexI s[k + 5]) = ((UInt8.ofNat (16 * hexI s[k + 4] + hexI s[k + 5]).toNat).toNat : Int) := by
                          rw [IntKind.wrap_u8, UInt8.toNat_ofNat']; omega
                        have HW := Lib.hid hw; have HE := Lib.hid he; have HU3 := Lib.hid hu3; have HV := Lib.hid hval
                        clear hw hdk2 he hd4 hex3 hu3 z4 z5 hval
                        go_wp2_with (go_at_call 59; with_reducible refine (hex_any _ _).mono ?_; rintro e w' ⟨rfl, rfl⟩)
                        have w4 : IntKind.i64.wrap ((k : Int) + 4) = (k : Int) + 4 := by rw [IntKind.wrap_i64]; omega
                        have w5 : IntKind.i64.wrap ((k : Int) + 5) = (k : Int) + 5 := by rw [IntKind.wrap_i64]; omega
                        have i4 : ∀ W, (Instr.index 9 (.string s) (.int .i64 ((k : Int) + 4))).run Tryd.prog W = .ok (.int .u8 (s[k + 4].toNat : Int)) W := fun W => by
                          have := run_index_string (P := Tryd.prog) (w := W) 9 s .i64 ((k : Int) + 4) Tryd.underlying9
                          rw [dif_pos (by omega)] at this
                          rw [this]; rfl
                        have i5 : ∀ W, (Instr.index 9 (.string s) (.int .i64 ((k : Int) + 5))).run Tryd.prog W = .ok (.int .u8 (s[k + 5].toNat : Int)) W := fun W => by
                          have := run_index_string (P := Tryd.prog) (w := W) 9 s .i64 ((k : Int) + 5) Tryd.underlying9
                          rw [dif_pos (by omega)] at this
                          rw [this]; rfl
                        have e3 : IntKind.i64.wrap (16 * hexI s[k + 4]) = 16 * hexI s[k + 4] := IntWalk.i64_in _ (by omega)
                        have e4 : IntKind.i64.wrap (16 * hexI s[k + 4] + hexI s[k + 5]) = 16 * hexI s[k + 4] + hexI s[k + 5] := IntWalk.i64_in _ (by omega)
                        have e5 := HV.out
                        go_region_held3 (fun _ => True) (trivial) (first | (go_at_call 59; with_reducible refine (hex_any _ _).mono ?_; rintro e w' ⟨rfl, rfl⟩) | (refine step_append_own rfl (.tmp 102) (.tmp 116) 79 rfl w.heap.size 5 i0 _ 1 1 Tryd.underlying79 hi hz0 hz1 hz2 rfl (by decide) _ _ _ rfl (World.ownsRow.alloc (World.ownsRow.drew hown) _) ⟨_, 0, none⟩ 1 1 [.int .u8 _] rfl rfl (new_cells _ #[_] _) (one_cell _) (by unfold maxLen; omega) (by omega) (by simp; omega) ?_; intro v' w1 hown' hg' hn'))
                        all_goals
                          have hb1 : Below w.heap.size w w1 := ((hb.alloc hbs _).drew).grown hg' (by simp; omega) (fun j hj => (hown.lt j hj).1)
                          clear hg' hn'
                          go_wp2
                          go_roundw
                          case rel => exact ⟨k + 6, acc ++ [UInt8.ofNat (16 * hexI s[k + 4] + hexI s[k + 5]).toNat], by omega, by go_num, by simp; omega, Buf.cut hown' (by simp) (by rw [cells_app]; exact congrArg _ (hex_cell _ (by omega) (by omega))), HW.out, hb1⟩
                          case measure => simp [intOf]; omega
                      · have y4 : decide (0 ≤ hexI s[k + 4]) = true := by simp [x4]
                        have y5 : decide (0 ≤ hexI s[k + 5]) = false := by simp [x5]
                        rw [if_neg (fun h => x5 h.2.2.2.2)] at hw
                        have HW := Lib.hid hw.symm; have HE := Lib.hid he; have HU3 := Lib.hid hu3
                        clear hw hdk2 he hd4 hex3 hu3
                        go_wp2_with (go_at_call 59; with_reducible refine (hex_any _ _).mono ?_; rintro e w' ⟨rfl, rfl⟩)
                        go_ret2
                        exact ⟨Or.inr ⟨Or.inl HW.out, rfl⟩, hb⟩
                    · have y4 : decide (0 ≤ hexI s[k + 4]) = false := by simp [x4]
                      rw [if_neg (fun h => x4 h.2.2.2.1)] at hw
                      have HW := Lib.hid hw.symm; have HE := Lib.hid he; have HU3 := Lib.hid hu3
                      clear hw hdk2 he hd4 hex3 hu3
                      go_wp2_with (go_at_call 59; with_reducible refine (hex_any _ _).mono ?_; rintro e w' ⟨rfl, rfl⟩)
                      go_ret2
                      exact ⟨Or.inr ⟨Or.inl HW.out, rfl⟩, hb⟩
                  · have v1 : ((s.extract (k + 1) (k + 4)).toList == [117, 48, 48]) = false := by
                      rw [hex3]; simp; intro a b c; exact hu3 ⟨a, b, c⟩
                    rw [if_neg (fun h => hu3 ⟨h.1, h.2.1, h.2.2.1⟩)] at hw
                    have HW := Lib.hid hw.symm; have HE := Lib.hid he; have HU3 := Lib.hid hu3
                    clear hw hdk2 he hd4 hex3 hu3
                    go_wp2
                    go_ret2
                    exact ⟨Or.inr ⟨Or.inl HW.out, rfl⟩, hb⟩
                · rw [wordT_none _ _ _ _ he (by rw [List.length_drop, hsl]; omega)] at hw
                  have g5 : decide ((k : Int) + 5 < (s.size : Int)) = false := by simp; omega
                  have HW := Lib.hid hw.symm; have HE := Lib.hid he; clear hw hdk2 he
                  go_wp2
                  go_ret2
                  exact ⟨Or.inr ⟨Or.inl HW.out, rfl⟩, hb⟩
            · have hke : s.size = k + 1 := by omega
              have hdk2 : s.data.toList.drop (k + 1) = [] := List.drop_of_length_le (by rw [hsl, hke]; exact Nat.le_refl _)
              rw [hdk2] at hw
              have hw' : wordT (s.data.toList.drop 1) [] 1 = none := by rw [← hw]; unfold wordT; rw [if_neg (by decide), if_pos rfl]
              have HW := Lib.hid hw'; clear hw hw' hdk2 hke
              have g1 : decide ((k : Int) + 1 < (s.size : Int)) = false := by simp; omega
              have g5 : decide ((k : Int) + 5 < (s.size : Int)) = false := by simp; omega
              go_wp2
              go_ret2
              exact ⟨Or.inr ⟨Or.inl HW.out, rfl⟩, hb⟩
          · have h92n : s[k].toNat ≠ 92 := fun e => h92 (UInt8.toNat_inj.1 e)
            have t2 : ((s[k].toNat : Int) == 92) = false := by simp; omega
            rw [wordT_plain _ _ _ _ h34 h92] at hw
            have HW := Lib.hid hw; have H34 := Lib.hid h34; have H92 := Lib.hid h92; clear hw h34 h92 hdk h34n h92n
            go_wp2_with (at_builtin; refine wpList_append_own _ rfl (.tmp 15) (.tmp 19) 79 rfl w.heap.size 5 i0 _ 1 1 Tryd.underlying79 hi hz0 hz1 hz2 rfl (by decide) _ _ _ rfl (World.ownsRow.alloc hown _) ⟨_, 0, none⟩ 1 1 [.int .u8 s[k].toNat] rfl rfl (new_cells _ #[_] _) (one_cell _) (by unfold maxLen; omega) (by omega) (by simp; omega) ?_)
            intro v' w1 hown' hg' _
            have hb1 : Below w.heap.size w w1 := (hb.alloc hbs _).grown hg' (by simp; omega) (fun j hj => (hown.lt j hj).1)
            go_wp2
            go_roundw
            case rel => exact ⟨k + 1, acc ++ [s[k]], by omega, by go_num, by simp; omega, Buf.cut hown' (by simp) (by rw [cells_app]; rfl), HW.out, hb1⟩
            case measure => simp [intOf]; omega
      · have hke : k = s.size := by omega
        subst hke
        rw [List.drop_of_length_le (by rw [hsl]; exact Nat.le_refl _)] at hw
        have hw' : wordT (s.data.toList.drop 1) [] 1 = none := by rw [← hw]; unfold wordT; rfl
        have HW := Lib.hid hw'; clear hw hw'
        go_wp2
        go_ret2
        exact ⟨Or.inr ⟨Or.inl HW.out, rfl⟩, hb⟩
end Go.Proofs.YtcbajbpdgmmaeaaDoor
namespace Go.Proofs.YtcbajbpdgmmaeaaDoor
open Go.RowKit
set_option linter.unusedVariables false
set_option linter.unusedSimpArgs false

theorem loopT_list (f : Nat) (s : List UInt8) (n : Nat) (ks : List (List UInt8)) (l : List V) : loopT (f + 1) false s n ks l = (match valueT f s with
      | (x, k) =>
        if k = 0 then (.mk 5 0 [] l ks, 0)
        else if beginsB (s.drop k) [93] then (.mk 5 0 [] (l ++ [x]) ks, n + k + 1)
        else if beginsB (s.drop k) [44] then loopT f false (s.drop (k + 1)) (n + k + 1) ks (l ++ [x])
        else (.mk 5 0 [] (l ++ [x]) ks, 0)) := by
  rw [loopT_succ]
  unfold keyT
  simp only [Bool.false_eq_true, if_false, List.drop_zero, Nat.zero_add, Nat.add_zero]
/-- what value answers -/
def ValT (f : Nat) (s : List UInt8) : Prop := ∀ w : World, Calls Tryd.prog 37 #[.string ⟨s.toArray⟩] w fun e w' =>
  (∃ k n t A a b A' a' b', e = .returned (.tuple #[.agg #[.int .i64 k, .int .i64 n, .string t, .slice A a b, .slice A' a' b'], .int .i64 ((valueT f s).2 : Int)]) ∧
    VIs w' w.heap.size w'.heap.size (valueT f s).1 [.int .i64 k, .int .i64 n, .string t, .slice A a b, .slice A' a' b']) ∧ Below w.heap.size w w'
/-- what a list's, or an object's, text is read as -/
def manyR (f : Nat) (obj : Bool) (s : List UInt8) : V × Nat :=
  if beginsB (s.drop 1) [if obj then 125 else 93] then (.mk (if obj then 6 else 5) 0 [] [] [], 2) else loopT f obj (s.drop 1) 1 [] []
def ManyT (f : Nat) (obj : Bool) (s : List UInt8) : Prop := ∀ w : World, Calls Tryd.prog 50 #[.string ⟨s.toArray⟩] w fun e w' =>
  (∃ k n t A a b A' a' b', e = .returned (.tuple #[.agg #[.int .i64 k, .int .i64 n, .string t, .slice A a b, .slice A' a' b'], .int .i64 ((manyR f obj s).2 : Int)]) ∧
    VIs w' w.heap.size w'.heap.size (manyR f obj s).1 [.int .i64 k, .int .i64 n, .string t, .slice A a b, .slice A' a' b']) ∧ Below w.heap.size w w'
theorem ext_drop (s : List UInt8) (n : Nat) : (⟨s.toArray⟩ : ByteArray).extract n (⟨s.toArray⟩ : ByteArray).size = ⟨(s.drop n).toArray⟩ := extS ⟨s.toArray⟩ n
/-- no key is longer than a length may be -/
def ShortK (ks : List (List UInt8)) : Prop := ∀ x ∈ ks, x.length ≤ 9223372036854775807
theorem begins_at (s t : List UInt8) (w : World) : Calls Tryd.prog 48 #[.string ⟨s.toArray⟩, .string ⟨t.toArray⟩] w fun e w' => e = .returned (.bool (beginsB s t)) ∧ w = w' := refBegins_any ⟨s.toArray⟩ ⟨t.toArray⟩ w
set_option maxRecDepth 100000 in
set_option maxHeartbeats 40000000 in
theorem manyList (m : Nat) (ih : ∀ f s, f ≤ m → s.length ≤ 4096 → 2 * s.length + 1 ≤ f → ValT f s) (f : Nat) (r0 : List UInt8) (hf : f ≤ m + 1) (hs : (91 :: r0).length ≤ 4096) (hfs : 2 * r0.length + 2 ≤ f) : ManyT f false (91 :: r0) := by
  intro w
  obtain ⟨s, hss⟩ : ∃ s : List UInt8, 91 :: r0 = s := ⟨_, rfl⟩
  obtain ⟨S, hS⟩ : ∃ S : ByteArray, S = ⟨s.toArray⟩ := ⟨_, rfl⟩
  have hsz : S.size = s.length := by rw [hS]; show s.toArray.size = _; simp
  have hsl : s.length = r0.length + 1 := by rw [← hss]; simp
  have hpos : 0 < S.size := by omega
  have h0 : S[0] = 91 := by subst hS; subst hss; rfl
  have t0 : ((S[0].toNat : Int) == 123) = false := by rw [h0]; rfl
  have hext : ∀ n, S.extract n S.size = ⟨(s.drop n).toArray⟩ := fun n => by rw [hS]; exact ext_drop s n
  have hbg : ∀ (n : Nat) (t : List UInt8) wq, Calls Tryd.prog 48 #[.string (S.extract n S.size), .string ⟨t.toArray⟩] wq fun e w' => e = .returned (.bool (beginsB (s.drop n) t)) ∧ wq = w' := fun n t wq => by rw [hext]; exact begins_at _ _ wq
  rw [hss] at hs ⊢
  rw [← hS]
  obtain ⟨RES, hRES⟩ : ∃ RES, manyR f false s = RES := ⟨_, rfl⟩
  rw [hRES]
  obtain ⟨R, hR⟩ : ∃ R, w.heap.size = R := ⟨_, rfl⟩
  obtain ⟨W2, hW2⟩ : ∃ W2, W2 = ((w.alloc (.cells #[.int .i64 0, .int .i64 0, .string ⟨#[]⟩, .slice none 0 0, .slice none 0 0] 28)).alloc (.cells #[.int .i64 5, .int .i64 0, .string ⟨#[]⟩, .slice none 0 0, .slice none 0 0] 28)) := ⟨_, rfl⟩
  have gst : GSt R 5 w W2 (.slice none 0 0) (.slice none 0 0) [] [] [] := by
    refine ⟨?_, ?_, ⟨rfl, .inl ⟨rfl, rfl⟩⟩, ⟨rfl, .inl ⟨rfl, rfl⟩⟩, fun i hi => absurd hi (Nat.not_lt_zero _), ?_, ?_⟩
    · rw [hW2, ← hR]
      have := heap_alloc_last (w.alloc (.cells #[.int .i64 0, .int .i64 0, .string ⟨#[]⟩, .slice none 0 0, .slice none 0 0] 28)) (.cells #[.int .i64 5, .int .i64 0, .string ⟨#[]⟩, .slice none 0 0, .slice none 0 0] 28)
      simpa using this
    · rw [hW2, ← hR, Below.heap_alloc _ _ _ (by simp)]; exact heap_alloc_last w _
    · rw [hW2, ← hR]; exact ((Below.refl _ _).alloc (Nat.le_refl _) _).alloc (by simp) _
    · rw [hW2, ← hR]; simp
  obtain ⟨z1, hz1⟩ : ∃ z, beginsB (s.drop 1) [93] = z := ⟨_, rfl⟩
  have hb1 := fun wq => hbg 1 [93] wq
  rw [hz1] at hb1
  have hR1 : RES = if z1 then (.mk 5 0 [] [] [], 2) else loopT f false (s.drop 1) 1 [] [] := by
    rw [← hRES, ← hz1]; unfold manyR; simp
  have HB1 := Lib.hid hb1; have GST := Lib.hid gst; have HR := Lib.hid hR; have HW2 := Lib.hid hW2; have IH := Lib.hid ih; have HBG := Lib.hid hbg; have HEXT := Lib.hid hext; have HSZ := Lib.hid hsz; have HSS := Lib.hid hsl; have HRR := Lib.hid hR1; have HS := Lib.hid hS
  clear hb1 gst hR hW2 ih hbg hext hRES hz1 h0 hss hS hsl hR1 hsz
  cases z1 with
  | true =>
    have e : RES = (.mk 5 0 [] [] [], 2) := HRR.out
    subst e
    obtain ⟨⟨e0, e1, e2, e3, e4⟩, f0, f1, f2, f3, f4⟩ := box_of GST.out.var
    obtain ⟨⟨p0, p1, p2, p3, p4⟩, q0, q1, q2, q3, q4⟩ := box_of GST.out.res
    rw [HW2.out, ← HR.out] at e0 e1 e2 e3 e4 f0 f1 f2 f3 f4 p0 p1 p2 p3 p4 q0 q1 q2 q3 q4
    go_enter Tryd.func50, Tryd.ntmps50
    go_wp2_with (go_at_call 48; refine (HB1.out _).mono ?_; rintro e1 w1 ⟨rfl, rfl⟩)
    refine bodyPost_ret (v := .tuple #[.agg #[.int .i64 5, .int .i64 0, .string ⟨#[]⟩, .slice none 0 0, .slice none 0 0], .int .i64 2]) (by simp [results, Tryd.results50, go_sem]) rfl ?_
    refine ⟨⟨_, _, _, _, _, _, _, _, _, rfl, VIs.mk (t := []) (l := []) (ks := []) ⟨by simp, by simp, by simp, by simp⟩ (.inl rfl) (.inl rfl)⟩, ((Below.refl _ _).alloc (Nat.le_refl _) _).alloc (by simp) _⟩
  | false =>
    have e : RES = loopT f false (s.drop 1) 1 [] [] := HRR.out
    have ER := Lib.hid e
    clear e HRR
    obtain ⟨i0, hi, hz0, hz1, hz2⟩ := info_parts Tryd.infoVal
    go_enter Tryd.func50, Tryd.ntmps50
    go_wp2_with (go_at_call 48; refine (HB1.out _).mono ?_; rintro e1 w1 ⟨rfl, rfl⟩)
    rw [← HW2.out, HR.out]
    go_loopw [6] (fun iv wr => ∃ (n f1 : Nat) (l : List V) (lv : Value) (xs : List Value), iv = .int .i64 n ∧ 1 ≤ n ∧ n ≤ S.size ∧ l.length ≤ n ∧ f1 ≤ m + 1 ∧ 2 * (S.size - n) + 2 ≤ f1 ∧ loopT f1 false (s.drop n) n [] l = RES ∧ GSt R 5 w wr lv (.slice none 0 0) l [] xs) (fun iv _ => S.size - (intOf iv).toNat)
    case atStart => exact ⟨1, f, [], _, [], rfl, Nat.le_refl _, by omega, Nat.zero_le _, hf, by have := HSZ.out; have := HSS.out; omega, ER.out.symm, GST.out⟩
    case round =>
      obtain ⟨n, f1, l, lv, xs, rfl, hn1, hn2, hln, hf1, hf2, hG, gst⟩ := hrel
      obtain ⟨f2, rfl⟩ : ∃ f2, f1 = f2 + 1 := ⟨f1 - 1, by omega⟩
      rw [loopT_list] at hG
      obtain ⟨LA, lc, rfl⟩ := own_form gst.rowL
      have hval := IH.out f2 (s.drop n) (by omega) (by rw [List.length_drop]; omega) (by rw [List.length_drop]; have := HSZ.out; omega) wr
      have hrd := (read_all f2).1 (s.drop n)
      obtain ⟨⟨x, k⟩, hv⟩ : ∃ y, valueT f2 (s.drop n) = y := ⟨_, rfl⟩
      rw [hv] at hG hval hrd
      dsimp only at hG hval hrd
      rw [← HEXT.out n] at hval
      have hkl : n + k ≤ S.size := by have := hrd.1; rw [List.length_drop] at this; have := HSZ.out; omega
      have hS4 : S.size ≤ 4096 := by have := HSZ.out; omega
      have hn3 : n ≤ 4096 := by omega
      have hsz := gst.size
      have v0 := (box_of gst.var).1.1
      have GS := Lib.hid gst; have HV := Lib.hid hval
      clear hrd hval hv
      by_cases hk0 : k = 0
      · subst hk0
        have e : RES = (.mk 5 0 [] l [], 0) := hG.symm
        subst e
        clear hG gst
        go_wp2_with fail
        refine (HV.out).mono ?_
        rintro e2 w3 ⟨⟨k', n', tt, A, a, b, A', a', b', rfl, hx⟩, hb2⟩
        dsimp only
        have hb3 := hb2.alloc hb2.size (.cells #[.int .i64 k', .int .i64 n', .string tt, .slice A a b, .slice A' a' b'] 28)
        have g2 := GS.out.later hb3
        obtain ⟨⟨e0, e1, e2, e3, e4⟩, f0, f1, f2', f3, f4⟩ := box_of g2.var
        obtain ⟨⟨p0, p1, p2, p3, p4⟩, q0, q1, q2, q3, q4⟩ := box_of g2.res
        have G2 := Lib.hid g2; clear g2 hb3 hx hb2
        go_wp2_with fail
        obtain ⟨wf, hwf⟩ : ∃ wf, wf = set5 (w3.alloc (.cells #[.int .i64 k', .int .i64 n', .string tt, .slice A a b, .slice A' a' b'] 28)) R 0 (.int .i64 5) (.int .i64 0) (.string ⟨#[]⟩) (.slice LA l.length lc) (.slice none 0 0) := ⟨_, rfl⟩
        change bodyPost _ _ _ _ _ (set5 (w3.alloc (.cells #[.int .i64 k', .int .i64 n', .string tt, .slice A a b, .slice A' a' b'] 28)) R 0 (.int .i64 5) (.int .i64 0) (.string ⟨#[]⟩) (.slice LA l.length lc) (.slice none 0 0))
        rw [← hwf]
        have hx : wf.heap[R]? = some (.cells #[.int .i64 5, .int .i64 0, .string ⟨#[]⟩, .slice LA l.length lc, .slice none 0 0] 28 (0, 0)) := by rw [hwf]; exact set5_here G2.out.res
        have hbf : Below R w wf := by rw [hwf]; exact G2.out.low.trans (set5_below (Nat.le_refl _))
        have hvf : VIs wf R wf.heap.size (.mk 5 0 [] l []) [.int .i64 5, .int .i64 0, .string ⟨#[]⟩, .slice LA l.length lc, .slice none 0 0] := G2.out.done (by omega) (by simp) (by simp) (fun b hb => by rw [hwf]; exact set5_there hb) (by rw [hwf, set5_size])
        obtain ⟨⟨x0, x1, x2, x3, x4⟩, -⟩ := box_of hx
        have HBF := Lib.hid hbf; have HVF := Lib.hid hvf
        clear hbf hvf hwf hx e0 e1 e2 e3 e4 f0 f1 f2' f3 f4 p0 p1 p2 p3 p4 q0 q1 q2 q3 q4
        refine bodyPost_ret (v := .tuple #[.agg #[.int .i64 5, .int .i64 0, .string ⟨#[]⟩, .slice LA l.length lc, .slice none 0 0], .int .i64 0]) (by simp [results, Tryd.results50, go_sem, x0, x1, x2, x3, x4]) rfl ?_
        rw [HR.out]
        exact ⟨⟨_, _, _, _, _, _, _, _, _, rfl, HVF.out⟩, HBF.out⟩
      · rw [if_neg hk0, List.drop_drop, List.drop_drop] at hG
        have hE1 := fun wq => HBG.out (n + k) [93] wq
        have hE2 := fun wq => HBG.out (n + k) [44] wq
        obtain ⟨zE, hzE⟩ : ∃ z, beginsB (s.drop (n + k)) [93] = z := ⟨_, rfl⟩
        obtain ⟨zC, hzC⟩ : ∃ z, beginsB (s.drop (n + k)) [44] = z := ⟨_, rfl⟩
        rw [hzE] at hE1 hG
        rw [hzC] at hE2 hG
        have hcl : zC = true → n + k + 1 ≤ S.size := fun h => by
          rw [h] at hzC
          have := begins_len hzC
          rw [List.length_drop, List.length_singleton] at this
          have := HSZ.out; omega
        have HG := Lib.hid hG; have HE1 := Lib.hid hE1; have HE2 := Lib.hid hE2; have HCL := Lib.hid hcl
        have d0 : ((k : Int) == 0) = false := by simp; omega
        clear hG hE1 hE2 hzE hzC hcl gst
        go_wp2_with fail
        refine (HV.out).mono ?_
        rintro e2 w3 ⟨⟨k', n', tt, A, a, b, A', a', b', rfl, hx⟩, hb2⟩
        dsimp only
        obtain ⟨IT, hIT⟩ : ∃ IT, IT = Obj.cells #[.int .i64 k', .int .i64 n', .string tt, .slice A a b, .slice A' a' b'] 28 := ⟨_, rfl⟩
        have hb3 := hb2.alloc hb2.size IT
        have g3 := GS.out.later hb3
        have g4 := GS.out.later (hb3.alloc hb3.size IT)
        have hx4 := hx.below (((Below.refl w3.heap.size w3).alloc (Nat.le_refl _) IT).alloc (by simp) IT)
        have hzw := hb2.size
        rw [hIT] at g3 g4 hx4 hb3
        obtain ⟨⟨e0, e1, e2, e3, e4⟩, f0, f1, f2', f3, f4⟩ := box_of g3.var
        obtain ⟨-, y0, y1, y2, y3, y4⟩ := box_of g4.var
        have G4 := Lib.hid g4; have HX4 := Lib.hid hx4; have HB3 := Lib.hid hb3
        clear g3 g4 hx4 hb3 hx hIT
        have hRlt : R + 1 < w3.heap.size := by have := GS.out.size; omega
        go_wp2_with (at_builtin; go_loud (refine wpList_append_own_at _ rfl (.tmp 67) (.tmp 69) 25 rfl (R + 2) 28 i0 _ 5 80 Tryd.underlying25 hi hz0 hz1 hz2 rfl (by decide) _ _ _ rfl G4.out.rowL ⟨_, 0, none⟩ 1 1 [.int .i64 k', .int .i64 n', .string tt, .slice A a b, .slice A' a' b'] rfl rfl (new_cells1 _ _ #[_, _, _, _, _] _) (by intro u hu; simp at hu; rcases hu with rfl | rfl | rfl | rfl | rfl <;> rfl) (by unfold maxLen; omega) (by omega) (by simp; omega) ?_; intro v5 w5 hown hgrow hnil hat; obtain ⟨A5, c5, rfl⟩ := own_form hown; obtain ⟨⟨p0, p1, p2, p3, p4⟩, q0, q1, q2, q3, q4⟩ := box_of (G4.out.varL hgrow)))
        have g6 := G4.out.item x HX4.out hsz (by simp; omega) (fun g hg => by
          have h1 := GS.out.rowL.lt g; have h2 := GS.out.rowK.lt g
          rcases hg with hg | hg
          · have := (h1 hg).2; omega
          · have := (h2 hg).2; omega) hown hgrow hat
        obtain ⟨w6, hw6⟩ : ∃ w6, w6 = w5.setCell ⟨R + 1, 3, none⟩ (.slice A5 (l.length + 1) c5) := ⟨_, rfl⟩
        rw [← hw6] at g6 ⊢
        have G6 := Lib.hid g6
        clear hw6 e0 e1 e2 e3 e4 f0 f1 f2' f3 f4 y0 y1 y2 y3 y4 p0 p1 p2 p3 p4 q0 q1 q2 q3 q4 hown hgrow hnil hat
        obtain ⟨⟨e0, e1, e2, e3, e4⟩, f0, f1, f2', f3, f4⟩ := box_of g6.var
        obtain ⟨⟨p0, p1, p2, p3, p4⟩, q0, q1, q2, q3, q4⟩ := box_of g6.res
        clear g6
        cases zE with
        | true =>
          have e : RES = (.mk 5 0 [] (l ++ [x]) [], n + k + 1) := HG.out.symm.trans (if_pos rfl)
          subst e
          refine (HE1.out _).mono ?_
          rintro e7 w7 ⟨rfl, rfl⟩
          dsimp only
          go_wp2_with fail
          obtain ⟨wf, hwf⟩ : ∃ wf, wf = set5 w6 R 0 (.int .i64 5) (.int .i64 0) (.string ⟨#[]⟩) (.slice A5 (l.length + 1) c5) (.slice none 0 0) := ⟨_, rfl⟩
          change bodyPost _ _ _ _ _ (set5 w6 R 0 (.int .i64 5) (.int .i64 0) (.string ⟨#[]⟩) (.slice A5 (l.length + 1) c5) (.slice none 0 0))
          rw [← hwf]
          have hx : wf.heap[R]? = some (.cells #[.int .i64 5, .int .i64 0, .string ⟨#[]⟩, .slice A5 (l.length + 1) c5, .slice none 0 0] 28 (0, 0)) := by rw [hwf]; exact set5_here G6.out.res
          have hbf : Below R w wf := by rw [hwf]; exact G6.out.low.trans (set5_below (Nat.le_refl _))
          have hvf : VIs wf R wf.heap.size (.mk 5 0 [] (l ++ [x]) []) [.int .i64 5, .int .i64 0, .string ⟨#[]⟩, .slice A5 (l.length + 1) c5, .slice none 0 0] := G6.out.done (by simp; omega) (by simp) (by simp) (fun b hb => by rw [hwf]; exact set5_there hb) (by rw [hwf, set5_size])
          obtain ⟨⟨x0, x1, x2, x3, x4⟩, -⟩ := box_of hx
          have HBF := Lib.hid hbf; have HVF := Lib.hid hvf
          clear hbf hvf hwf hx e0 e1 e2 e3 e4 f0 f1 f2' f3 f4 p0 p1 p2 p3 p4 q0 q1 q2 q3 q4
          refine bodyPost_ret (v := .tuple #[.agg #[.int .i64 5, .int .i64 0, .string ⟨#[]⟩, .slice A5 (l.length + 1) c5, .slice none 0 0], .int .i64 ((n : Int) + k + 1)]) (by simp [results, Tryd.results50, go_sem, x0, x1, x2, x3, x4]) rfl ?_
          rw [HR.out]
          exact ⟨⟨_, _, _, _, _, _, _, _, _, rfl, HVF.out⟩, HBF.out⟩
        | false =>
          cases zC with
          | true =>
            have e : loopT f2 false (s.drop (n + (k + 1))) (n + k + 1) [] (l ++ [x]) = RES := by
              have h := HG.out
              simp only [Bool.false_eq_true, if_false, if_true] at h
              exact h
            have EE := Lib.hid e
            have hcl := HCL.out rfl
            clear e
            refine (HE1.out _).mono ?_
            rintro e7 w7 ⟨rfl, rfl⟩
            dsimp only
            go_wp2_with (go_at_call 48; refine (HE2.out _).mono ?_; rintro e8 w8 ⟨rfl, rfl⟩)
            clear e0 e1 e2 e3 e4 f0 f1 f2' f3 f4 p0 p1 p2 p3 p4 q0 q1 q2 q3 q4
            have hsz9 := HSZ.out
            exact ⟨⟨n + k + 1, f2, l ++ [x], _, _, by go_num, by omega, by omega, by simp; omega, by omega, by omega, EE.out, G6.out⟩, by simp [intOf]; omega⟩
          | false =>
            have e : RES = (.mk 5 0 [] (l ++ [x]) [], 0) := HG.out.symm.trans (by simp)
            subst e
            refine (HE1.out _).mono ?_
            rintro e7 w7 ⟨rfl, rfl⟩
            dsimp only
            go_wp2_with (go_at_call 48; refine (HE2.out _).mono ?_; rintro e8 w8 ⟨rfl, rfl⟩)
            obtain ⟨wf, hwf⟩ : ∃ wf, wf = set5 w6 R 0 (.int .i64 5) (.int .i64 0) (.string ⟨#[]⟩) (.slice A5 (l.length + 1) c5) (.slice none 0 0) := ⟨_, rfl⟩
            change bodyPost _ _ _ _ _ (set5 w6 R 0 (.int .i64 5) (.int .i64 0) (.string ⟨#[]⟩) (.slice A5 (l.length + 1) c5) (.slice none 0 0))
            rw [← hwf]
            have hx : wf.heap[R]? = some (.cells #[.int .i64 5, .int .i64 0, .string ⟨#[]⟩, .slice A5 (l.length + 1) c5, .slice none 0 0] 28 (0, 0)) := by rw [hwf]; exact set5_here G6.out.res
            have hbf : Below R w wf := by rw [hwf]; exact G6.out.low.trans (set5_below (Nat.le_refl _))
            have hvf : VIs wf R wf.heap.size (.mk 5 0 [] (l ++ [x]) []) [.int .i64 5, .int .i64 0, .string ⟨#[]⟩, .slice A5 (l.length + 1) c5, .slice none 0 0] := G6.out.done (by simp; omega) (by simp) (by simp) (fun b hb => by rw [hwf]; exact set5_there hb) (by rw [hwf, set5_size])
            obtain ⟨⟨x0, x1, x2, x3, x4⟩, -⟩ := box_of hx
            have HBF := Lib.hid hbf; have HVF := Lib.hid hvf
            clear hbf hvf hwf hx e0 e1 e2 e3 e4 f0 f1 f2' f3 f4 p0 p1 p2 p3 p4 q0 q1 q2 q3 q4
            refine bodyPost_ret (v := .tuple #[.agg #[.int .i64 5, .int .i64 0, .string ⟨#[]⟩, .slice A5 (l.length + 1) c5, .slice none 0 0], .int .i64 0]) (by simp [results, Tryd.results50, go_sem, x0, x1, x2, x3, x4]) rfl ?_
            rw [HR.out]
            exact ⟨⟨_, _, _, _, _, _, _, _, _, rfl, HVF.out⟩, HBF.out⟩
end Go.Proofs.YtcbajbpdgmmaeaaDoor
