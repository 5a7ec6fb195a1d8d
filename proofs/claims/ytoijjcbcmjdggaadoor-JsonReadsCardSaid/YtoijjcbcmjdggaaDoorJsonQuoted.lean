/- JSON: the code's quoted. -/
import Derived.Test.YtoijjcbcmjdggaaDoorJsonEsc
import Derived.WalkMore
namespace Go.Proofs.YtoijjcbcmjdggaaDoor
open Go.RowKit

theorem extS (s : ByteArray) (k : Nat) : s.extract k s.size = ⟨(s.data.toList.drop k).toArray⟩ := by
  apply ByteArray.ext
  rw [ByteArray.data_extract]
  apply Array.ext'
  rw [Array.toList_extract, List.extract]
  show (s.data.toList.drop k).take (s.size - k) = _
  rw [List.take_of_length_le]
  rw [List.length_drop]
  exact Nat.le_refl _
theorem toListS (t : List UInt8) : (⟨t.toArray⟩ : ByteArray).data.toList = t := by simp
/-- what quoted answers -/
def quotedR (s : List UInt8) : List UInt8 × List UInt8 × Bool := match quotedC s with
  | some (t, r) => (t, r, true)
  | none => ([], [], false)
theorem quotC_end (acc : List UInt8) : quotC [] acc = none := by unfold quotC; rfl
theorem quotC_stop (r acc : List UInt8) : quotC (34 :: r) acc = some (acc, r) := by unfold quotC; rw [if_pos rfl]
theorem quotC_low (c : UInt8) (r acc : List UInt8) (h34 : c ≠ 34) (h92 : c ≠ 92) (h : c.toNat < 32) : quotC (c :: r) acc = none := by unfold quotC; rw [if_neg h34, if_neg h92, if_pos h]
theorem quotC_plain (c : UInt8) (r acc : List UInt8) (h34 : c ≠ 34) (h92 : c ≠ 92) (h : ¬ c.toNat < 32) : quotC (c :: r) acc = quotC r (acc ++ [c]) := by
  conv => lhs; unfold quotC
  rw [if_neg h34, if_neg h92, if_neg h]
set_option maxRecDepth 100000 in
set_option maxHeartbeats 2000000 in
theorem quoted_any (s : ByteArray) (hs : s.size ≤ 1000000) (w : World) :
    Calls Tryd.prog 45 #[.string s] w fun e w' => e = .returned (.tuple #[.string ⟨(quotedR s.data.toList).1.toArray⟩, .string ⟨(quotedR s.data.toList).2.1.toArray⟩, .bool (quotedR s.data.toList).2.2]) ∧ Below w.heap.size w w' := by
  obtain ⟨i0, hi, hz0, hz1, hz2⟩ := info_parts Tryd.infoByte
  have hhp := fun w => Tryd.strings_HasPrefix s ⟨#[34]⟩ w
  simp only [hasPrefix_begins] at hhp
  have hsl : s.data.toList.length = s.size := rfl
  obtain ⟨QR, hQR⟩ : ∃ QR, quotedR s.data.toList = QR := ⟨_, rfl⟩
  rw [hQR]
  cases hb : beginsB s.data.toList [34] with
  | false =>
    have e : QR = ([], [], false) := hQR.symm.trans (by unfold quotedR quotedC; rw [hb]; rfl)
    subst e
    rw [show beginsB s.data.toList (⟨#[34]⟩ : ByteArray).data.toList = false from hb] at hhp
    have HP := Lib.hid hhp; clear hhp hQR hb
    go_enter Tryd.func45, Tryd.ntmps45
    go_wp2_with fail
    go_step3
    go_wp2_with (go_at_call 44; refine (HP.out _).mono ?_; rintro e1 w1 ⟨rfl, rfl⟩)
    rw [Exit.noGoto_ret]
    refine bodyPost_ret (v := .tuple #[.string ⟨#[]⟩, .string ⟨#[]⟩, .bool false]) (by simp [results, Tryd.results45, go_sem]) rfl ?_
    exact ⟨rfl, Below.refl _ _⟩
  | true =>
    rw [show beginsB s.data.toList (⟨#[34]⟩ : ByteArray).data.toList = true from hb] at hhp
    have h1 : 1 ≤ s.size := by
      have := congrArg List.length (begins_one hb)
      rw [hsl] at this; simp at this; omega
    have hq : QR = match quotC (s.data.toList.drop 1) [] with | some (t, r) => (t, r, true) | none => ([], [], false) := hQR.symm.trans (by unfold quotedR quotedC; rw [hb]; rfl)
    have HP := Lib.hid hhp; have HQ := Lib.hid hq
    clear hhp hQR hb hq
    go_enter Tryd.func45, Tryd.ntmps45
    go_wp2_with fail
    go_step3
    go_wp2_with (go_at_call 44; refine (HP.out _).mono ?_; rintro e1 w1 ⟨rfl, rfl⟩)
    go_step3
    go_wp2_with fail
    go_loopw [5, 6] (fun v i wr => ∃ (k : Nat) (acc : List UInt8), 1 ≤ k ∧ k ≤ s.size ∧ i = .int .i64 k ∧ acc.length ≤ k ∧ Buf wr w1.heap.size v acc ∧ quotC (s.data.toList.drop k) acc = quotC (s.data.toList.drop 1) [] ∧ Below w1.heap.size w1 wr) (fun _ i _ => s.size - (intOf i).toNat)
    case atStart => exact ⟨1, [], Nat.le_refl _, h1, rfl, by simp, ⟨rfl, Or.inl ⟨rfl, rfl⟩⟩, rfl, Below.refl _ _⟩
    case round =>
      obtain ⟨k, acc, hk1, hk, rfl, hal, hown, hw, hb⟩ := hrel
      have hbs := hb.size
      by_cases hlt : k < s.size
      · have hdk : s.data.toList.drop k = s[k] :: s.data.toList.drop (k + 1) := List.drop_eq_getElem_cons (by rw [hsl]; exact hlt)
        rw [hdk] at hw
        have hu := s[k].toNat_lt
        by_cases h34 : s[k] = 34
        · rw [h34, quotC_stop] at hw
          have t1 : ((s[k].toNat : Int) == 34) = true := by rw [h34]; rfl
          have hcv := hown.text
          have hcv2 := (hown.below ((Below.refl wr.heap.size wr).drew)).text
          have hxs : s.extract (k + 1) s.size = ⟨(s.data.toList.drop (k + 1)).toArray⟩ := extS s (k + 1)
          have HXS := Lib.hid hxs; clear hxs
          have hke : ((k : Int) == (s.size : Int)) = false := by simp; omega
          have e : QR = (acc, s.data.toList.drop (k + 1), true) := by rw [HQ.out, ← hw]
          subst e
          have H34 := Lib.hid h34; clear hw h34 hdk
          go_wp2
          go_region
          all_goals
            go_wp2
            rw [Exit.noGoto_ret]
            refine bodyPost_ret (v := .tuple #[.string ⟨acc.toArray⟩, .string (s.extract (k + 1) s.size), .bool true]) (by simp [results, Tryd.results45, go_sem]) rfl ?_
            exact ⟨by rw [HXS.out], hb.drew⟩
        · have h34n : s[k].toNat ≠ 34 := fun e => h34 (UInt8.toNat_inj.1 e)
          have t1 : ((s[k].toNat : Int) == 34) = false := by simp; omega
          by_cases h92 : s[k] = 92
          · have t2 : ((s[k].toNat : Int) == 92) = true := by rw [h92]; rfl
            rw [h92, quotC_esc] at hw
            have hel := escR_len (s.data.toList.drop (k + 1))
            rw [List.length_drop, hsl] at hel
            have hxs : (s.extract k s.size).data.toList = 92 :: s.data.toList.drop (k + 1) := by rw [extS, toListS, hdk, h92]
            have hes := fun w => escaped_any (s.extract k s.size) (s.data.toList.drop (k + 1)) hxs (by rw [ext_size]; omega) w
            obtain ⟨ER, hER⟩ : ∃ ER, escR (s.data.toList.drop (k + 1)) = ER := ⟨_, rfl⟩
            rw [hER] at hw hel hes
            obtain ⟨c, n⟩ := ER
            dsimp only at hw hel hes
            have HES := Lib.hid hes; have H92 := Lib.hid h92; have H34 := Lib.hid h34; have HL := Lib.hid hel; clear hes h92 h34 h34n hdk hER hxs
            by_cases hn : n = 0
            · subst hn
              rw [if_pos rfl] at hw
              have e : QR = ([], [], false) := by rw [HQ.out, ← hw]
              subst e
              clear hw hel
              go_wp2_with (go_at_call 60; refine (HES.out _).mono ?_; rintro e2 w2 ⟨rfl, q, rfl⟩)
              rw [Exit.noGoto_ret]
              refine bodyPost_ret (v := .tuple #[.string ⟨#[]⟩, .string ⟨#[]⟩, .bool false]) (by simp [results, Tryd.results45, go_sem]) rfl ?_
              exact ⟨rfl, belowDrewN hb q⟩
            · rw [if_neg hn, List.drop_drop] at hw
              have hkn : k + 1 + (n - 1) = k + n := by omega
              rw [hkn] at hw
              have tn : ((n : Int) == 0) = false := by simp; omega
              have hn6 : n ≤ 6 := hel.1
              have hkn2 : k + n ≤ s.size := by omega
              have HW := Lib.hid hw; clear hw hkn hel
              have hown2 := fun q => hown.below (belowDrewN (Below.refl wr.heap.size wr) q)
              go_wp2_with (first
                | (go_at_call 60; refine (HES.out _).mono ?_; rintro e2 w2 ⟨rfl, q, rfl⟩)
                | (at_builtin; refine wpList_append_own _ rfl (.tmp 41) (.tmp 43) 45 rfl w1.heap.size 5 i0 _ 1 1 Tryd.underlying45 hi hz0 hz1 hz2 rfl (by decide) _ _ _ rfl (World.ownsRow.alloc (hown2 q) _) ⟨_, 0, none⟩ 1 1 [.int .u8 c.toNat] rfl rfl (new_cells _ #[_] _) (one_cell _) (by unfold maxLen; omega) (by omega) (by simp; omega) ?_; intro v' w3 hown' hg' _))
              have hb1 : Below w1.heap.size w1 w3 := ((belowDrewN hb q).alloc (by simp; omega) _).grown hg' (by simp; omega) (fun j hj => (hown.lt j hj).1)
              go_wp2
              go_roundw
              case rel => exact ⟨k + n, acc ++ [c], by omega, by omega, by go_num, by simp; omega, Buf.cut hown' (by simp) (by rw [cells_app]; rfl), HW.out, hb1⟩
              case measure => simp [intOf]; omega
          · have h92n : s[k].toNat ≠ 92 := fun e => h92 (UInt8.toNat_inj.1 e)
            have t2 : ((s[k].toNat : Int) == 92) = false := by simp; omega
            by_cases h32 : s[k].toNat < 32
            · have t3 : decide ((s[k].toNat : Int) < 32) = true := by simp; omega
              rw [quotC_low _ _ _ h34 h92 h32] at hw
              have e : QR = ([], [], false) := by rw [HQ.out, ← hw]
              subst e
              have H92 := Lib.hid h92; have H34 := Lib.hid h34; clear h92 h34 h34n h92n hdk hw
              go_wp2
              rw [Exit.noGoto_ret]
              refine bodyPost_ret (v := .tuple #[.string ⟨#[]⟩, .string ⟨#[]⟩, .bool false]) (by simp [results, Tryd.results45, go_sem]) rfl ?_
              exact ⟨rfl, hb⟩
            · have t3 : decide ((s[k].toNat : Int) < 32) = false := by simp; omega
              rw [quotC_plain _ _ _ h34 h92 h32] at hw
              have HW := Lib.hid hw; have H92 := Lib.hid h92; have H34 := Lib.hid h34; clear h92 h34 h34n h92n hdk hw
              go_wp2_with (at_builtin; refine wpList_append_own _ rfl (.tmp 20) (.tmp 22) 45 rfl w1.heap.size 5 i0 _ 1 1 Tryd.underlying45 hi hz0 hz1 hz2 rfl (by decide) _ _ _ rfl (World.ownsRow.alloc hown _) ⟨_, 0, none⟩ 1 1 [.int .u8 s[k].toNat] rfl rfl (new_cells _ #[_] _) (one_cell _) (by unfold maxLen; omega) (by omega) (by simp; omega) ?_; intro v' w3 hown' hg' _)
              have hb1 : Below w1.heap.size w1 w3 := (hb.alloc hbs _).grown hg' (by simp; omega) (fun j hj => (hown.lt j hj).1)
              go_wp2
              go_roundw
              case rel => exact ⟨k + 1, acc ++ [s[k]], by omega, by omega, by go_num, by simp; omega, Buf.cut hown' (by simp) (by rw [cells_app]; rfl), HW.out, hb1⟩
              case measure => simp [intOf]; omega
      · have hke : k = s.size := by omega
        subst hke
        rw [List.drop_of_length_le (by rw [hsl]; exact Nat.le_refl _), quotC_end] at hw
        have e : QR = ([], [], false) := by rw [HQ.out, ← hw]
        subst e
        clear hw
        go_wp2
        rw [Exit.noGoto_ret]
        refine bodyPost_ret (v := .tuple #[.string ⟨#[]⟩, .string ⟨#[]⟩, .bool false]) (by simp [results, Tryd.results45, go_sem]) rfl ?_
        exact ⟨rfl, hb⟩
end Go.Proofs.YtoijjcbcmjdggaaDoor
