/- Texts merged by program, in build order: ChangesRef, TapeRef, TapeRefW. -/
import Derived.Test.YtklhdffbaglkdaaDoorG13
import Derived.Test.YtklhdffbaglkdaaDoorG12
import Derived.Test.YtklhdffbaglkdaaDoorG11
import Derived.Test.YtklhdffbaglkdaaDoorG05
import Derived.Test.YtklhdffbaglkdaaDoorG02
import Derived.Deep.RegionLaw
import Derived.Deep.RegionWith
import Derived.Deep.Cut
namespace Go.Proofs.YtklhdffbaglkdaaDoor
open Go.RowKit
set_option linter.unusedVariables false
set_option linter.unusedSimpArgs false

theorem chgL_P (b : List UInt8) (p : Nat) : chgL (b.drop p) = if p + 4 ≤ b.length then (match textP b (p + 4) with
    | none => none
    | some (k, q) => match textP b q with
      | none => none
      | some (v, q2) => some (⟨k, v, decide (num4 (b.drop p) = 1)⟩, b.drop q2)) else none := by
  unfold chgL
  by_cases h : p + 4 ≤ b.length
  · rw [if_pos h, if_pos (by rw [List.length_drop]; omega), List.drop_drop, txt_textP]
    cases textP b (p + 4) with
    | none => rfl
    | some x =>
      obtain ⟨k, q⟩ := x
      dsimp only
      rw [txt_textP]
      cases textP b q with
      | none => rfl
      | some y => rfl
  · rw [if_neg h, if_neg (by rw [List.length_drop]; omega)]
theorem chgs_step (b : List UInt8) (N j p : Nat) (done : List Ch) (hj : j < N) (h : chgsL N (b.drop 4) = (chgsL (N - j) (b.drop p)).map (done ++ ·)) (c : Ch) (q : Nat) (hc : chgL (b.drop p) = some (c, b.drop q)) :
    chgsL N (b.drop 4) = (chgsL (N - (j + 1)) (b.drop q)).map ((done ++ [c]) ++ ·) := by
  rw [h, show N - j = (N - (j + 1)) + 1 by omega, chgsL_succ, hc]
  dsimp only
  cases chgsL (N - (j + 1)) (b.drop q) with
  | none => rfl
  | some l => simp
theorem chgs_fail (b : List UInt8) (N j p : Nat) (done : List Ch) (hj : j < N) (h4 : 4 ≤ b.length) (hn : num4 b = N) (h : chgsL N (b.drop 4) = (chgsL (N - j) (b.drop p)).map (done ++ ·)) (hc : chgL (b.drop p) = none) : changesL b = none := by
  unfold changesL
  rw [if_pos h4, hn, h, show N - j = (N - (j + 1)) + 1 by omega, chgsL_succ, hc]
  rfl
theorem chgs_end (b : List UInt8) (N p : Nat) (done : List Ch) (h4 : 4 ≤ b.length) (hn : num4 b = N) (h : chgsL N (b.drop 4) = (chgsL 0 (b.drop p)).map (done ++ ·)) : changesL b = if recL done = b then some done else none := by
  unfold changesL
  rw [if_pos h4, hn, h]
  show (match some (done ++ []) with | none => none | some l => if recL l = b then some l else none) = _
  rw [List.append_nil]
set_option maxRecDepth 100000 in
set_option maxHeartbeats 8000000 in
theorem refChanges_any (A : Option Addr) (c : Nat) (b : List UInt8) (hl : b.length ≤ 100000) (w : World) (h : RdW w (.slice A b.length c) b) :
    Calls Tryd.prog 34 #[.slice A b.length c] w fun e w' => (∃ v, e = .returned (.tuple #[v, .bool (changesL b).isSome]) ∧ ∀ l, changesL b = some l → RdC w' v l) ∧ Below w.heap.size w w' := by
  obtain ⟨i0, hi, hz0, hz1, hz2⟩ := info_parts Tryd.infoChange
  obtain ⟨m, hm⟩ : ∃ m, b.length = m := ⟨_, rfl⟩
  have hcm : m ≤ c ∧ c ≤ 9223372036854775807 := by
    obtain ⟨A', c', e, h1, h2, h3⟩ := h
    cases e
    exact ⟨by omega, h2⟩
  by_cases h4 : 4 ≤ m
  · have d4 : decide ((m : Int) < 4) = false := by simp; omega
    obtain ⟨N, hN⟩ : ∃ N, num4 b = N := ⟨_, rfl⟩
    have hN32 : N < 4294967296 := by rw [← hN]; exact num4_lt b
    have hnum := refNumber_any A c b (by omega) w h (by omega)
    obtain ⟨g, o, rfl, hg, -⟩ := rdw_at h (by omega)
    rw [hN, hm] at hnum
    have HNUM := Lib.hid hnum; have HRD := Lib.hid h; have HM := Lib.hid hm; have HNN := Lib.hid hN
    rw [hm] at hl ⊢
    clear hnum h hm hN hg
    go_enter Tryd.func34, Tryd.ntmps34
    go_wp2_with fail
    refine HNUM.out.mono ?_
    rintro e w1 ⟨rfl, hb1⟩
    have B1 := Lib.hid hb1; clear hb1
    dsimp only
    go_wp2_with fail
    go_loopw [5, 6, 7] (fun av ov iv W => ∃ (j p : Nat) (done : List Ch), j ≤ N ∧ iv = .int .i64 j ∧ av = .int .i64 p ∧ 4 ≤ p ∧ p ≤ m ∧ Hid (CRow W w.heap.size 61 ov done ∧ done.length ≤ j ∧ (recAll done).length + 4 ≤ p ∧ chgsL N (b.drop 4) = (chgsL (N - j) (b.drop p)).map (done ++ ·) ∧ Below w.heap.size w W)) (fun _ _ iv _ => N - (intOf iv).toNat)
    case atStart => exact ⟨0, 4, [], Nat.zero_le _, rfl, rfl, Nat.le_refl _, h4, Lib.hid ⟨World.ownsRow_nil _ _ _ _, Nat.le_refl _, Nat.le_refl _, by simp, B1.out⟩⟩
    case round =>
      obtain ⟨j, p, done, hj, rfl, rfl, hp4, hpm, hT⟩ := hrel
      by_cases hlt : j < N
      · have hjr : decide ((j : Int) < N) = true := by simp; omega
        by_cases hp : p + 4 ≤ m
        · have dp : decide ((m : Int) < (p : Int) + 4) = false := by simp; omega
          have hrw := HRD.out.below hT.out.2.2.2.2
          obtain ⟨D, hD⟩ : ∃ D, b.drop p = D := ⟨_, rfl⟩
          have hDl : D.length = m - p := by rw [← hD, List.length_drop, HM.out]
          have hsub := RdW.sub hrw (by have := HM.out; omega) p b.length (by have := HM.out; omega) (Nat.le_refl _)
          rw [List.take_of_length_le (by rw [List.length_drop]; omega), hD, HM.out] at hsub
          have hnum2 := refNumber_any (some ⟨g, o + p, none⟩) (c - p) D (by omega) wr (by rw [hDl]; exact hsub) (by omega)
          rw [hDl] at hnum2
          obtain ⟨s, hs⟩ : ∃ s, num4 D = s := ⟨_, rfl⟩
          rw [hs] at hnum2
          have ht1 := fun W (hb : Below wr.heap.size wr W) => refText_any (some ⟨g, o, none⟩) c b (by have := HM.out; omega) (p + 4) (by omega) W (hrw.below hb)
          rw [HM.out] at ht1
          simp only [show ((p + 4 : Nat) : Int) = (p : Int) + 4 by omega] at ht1
          have ht2 := fun q (hq : q ≤ 100000) W (hb : Below wr.heap.size wr W) => refText_any (some ⟨g, o, none⟩) c b (by have := HM.out; omega) q (by omega) W (hrw.below hb)
          rw [HM.out] at ht2
          have hcp := chgL_P b p
          rw [HM.out, if_pos hp, hD, hs] at hcp
          have N2 := Lib.hid hnum2; have T1 := Lib.hid ht1; have T2 := Lib.hid ht2; have CP := Lib.hid hcp; have RW := Lib.hid hrw; have HD := Lib.hid hD
          clear hnum2 ht1 ht2 hcp hrw hsub hDl hD hs
          go_wp2_with fail
          refine N2.out.mono ?_
          rintro e w2 ⟨rfl, hb2⟩
          have B2 := Lib.hid hb2; clear hb2
          dsimp only
          go_wp2_with fail
          obtain ⟨G, hG⟩ : ∃ G, ((s : Int) == 1) = G := ⟨_, rfl⟩
          have hGd : decide (s = 1) = G := by rw [← hG, Bool.eq_iff_iff]; simp; omega
          rw [hG]
          rw [hGd] at CP
          obtain ⟨R, hR⟩ : ∃ R, w2.heap.size = R := ⟨_, rfl⟩
          obtain ⟨W3, hW3⟩ : ∃ W3, W3 = w2.alloc (.cells #[.string ⟨#[]⟩, .string ⟨#[]⟩, .bool G] 61) := ⟨_, rfl⟩
          have hbk : W3.heap[R]? = some (.cells #[.string ⟨#[]⟩, .string ⟨#[]⟩, .bool G] 61 (0, 0)) := by rw [hW3, ← hR]; exact heap_alloc_last w2 _
          have hb3 : Below wr.heap.size wr W3 := by rw [hW3]; exact B2.out.alloc B2.out.size _
          rw [← hW3, hR]
          have hRr : wr.heap.size ≤ R := by rw [← hR]; exact B2.out.size
          have BK := Lib.hid hbk; have B3 := Lib.hid hb3
          clear hbk hb3 hW3 hR hG hGd
          have hfail : chgL (b.drop p) = none → changesL b = none := fun h => chgs_fail b N j p done hlt (by have := HM.out; omega) HNN.out hT.out.2.2.2.1 h
          have hcp := CP.out
          rw [← HD.out] at hcp
          have FAIL := Lib.hid hfail; have CPP := Lib.hid hcp
          clear hfail hcp
          have hT1 := T1.out W3 B3.out
          have HT1 := Lib.hid hT1; clear hT1
          cases ht : textP b (p + 4) with
          | none =>
            have hno := FAIL.out (by rw [CPP.out, ht])
            have hT1 := HT1.out
            rw [ht] at hT1
            have HT1 := Lib.hid hT1; have NO := Lib.hid hno
            clear hT1 hno ht
            refine HT1.out.mono ?_
            rintro e w4 ⟨rfl, hb4⟩
            have B4 := Lib.hid (B3.out.trans (hb4.mono B3.out.size)); clear hb4
            dsimp only [textV]
            go_wp2_with fail
            refine (refText_neg _ _).mono ?_
            rintro e w5 ⟨rfl, hb5⟩
            have B5 := Lib.hid (B4.out.trans (hb5.mono B4.out.size)); clear hb5
            dsimp only [textV]
            go_wp2
            go_ret2
            rw [NO.out]
            exact ⟨⟨_, rfl, fun l hl => by cases hl⟩, hT.out.2.2.2.2.chain B5.out⟩
          | some x =>
            obtain ⟨k1, q1⟩ := x
            have hT1 := HT1.out
            rw [ht] at hT1
            have HT1 := Lib.hid hT1
            have hle1 := textP_le ht
            rw [HM.out] at hle1
            have hcp := CPP.out
            rw [ht] at hcp
            dsimp only at hcp
            have CPP := Lib.hid hcp
            have hT2' := fun W (hb : Below wr.heap.size wr W) => T2.out q1 (by omega) W hb
            have HT2 := Lib.hid hT2'; have LE1 := Lib.hid hle1
            clear hT1 ht hle1 hcp hT2'
            refine HT1.out.mono ?_
            rintro e w4 ⟨rfl, hb4⟩
            have B4 := Lib.hid (B3.out.trans (hb4.mono B3.out.size))
            have BK4 := Lib.hid (blk_below BK.out hb4); clear hb4
            dsimp only [textV]
            go_wp2_with fail
            have hT2' := HT2.out w4 B4.out
            cases ht2 : textP b q1 with
            | none =>
              have hno := FAIL.out (by rw [CPP.out, ht2])
              rw [ht2] at hT2'
              have HT3 := Lib.hid hT2'; have NO := Lib.hid hno
              clear hT2' hno ht2
              refine HT3.out.mono ?_
              rintro e w5 ⟨rfl, hb5⟩
              have B5 := Lib.hid (B4.out.trans (hb5.mono B4.out.size)); clear hb5
              dsimp only [textV]
              go_wp2
              go_ret2
              rw [NO.out]
              exact ⟨⟨_, rfl, fun l hl => by cases hl⟩, hT.out.2.2.2.2.chain B5.out⟩
            | some y =>
              obtain ⟨v1, q2⟩ := y
              rw [ht2] at hT2'
              have hle2 := textP_le ht2
              rw [HM.out] at hle2
              have hcp := CPP.out
              rw [ht2] at hcp
              dsimp only at hcp
              have hnext := chgs_step b N j p done hlt hT.out.2.2.2.1 ⟨k1, v1, G⟩ q2 hcp
              have HT3 := Lib.hid hT2'; have LE2 := Lib.hid hle2; have NX := Lib.hid hnext
              clear hT2' ht2 hle2 hcp hnext
              refine HT3.out.mono ?_
              rintro e w5 ⟨rfl, hb5⟩
              have B5 := Lib.hid (B4.out.trans (hb5.mono B4.out.size))
              have BK5 := Lib.hid (blk_below BK4.out hb5); clear hb5
              obtain ⟨S1, hS1⟩ : ∃ S : ByteArray, S = ⟨k1.toArray⟩ := ⟨_, rfl⟩
              obtain ⟨S2, hS2⟩ : ∃ S : ByteArray, S = ⟨v1.toArray⟩ := ⟨_, rfl⟩
              dsimp only [textV]
              rw [← hS1, ← hS2]
              have HS1 := Lib.hid hS1; have HS2 := Lib.hid hS2
              clear hS1 hS2
              have dq : decide ((q2 : Int) < 0) = false := by simp
              have c0 := cell_here (o := 0) BK5.out
              have f0 := frozen_here BK5.out 0
              have hb6 := set_here (o := 0) BK5.out (.string S1)
              have c1 := cell_here (o := 1) hb6
              have f1 := frozen_here hb6 1
              have hb7 := set_here (o := 1) hb6 (.string S2)
              have BK7 := Lib.hid hb7
              clear hb6 hb7
              go_upto_region 17 with fail
              obtain ⟨W7, hW7⟩ : ∃ W7, W7 = (w5.setCell ⟨R, 0, none⟩ (.string S1)).setCell ⟨R, 1, none⟩ (.string S2) := ⟨_, rfl⟩
              rw [← hW7]
              have hb7 : W7.heap[R]? = some (.cells #[.string S1, .string S2, .bool G] 61 (0, 0)) := by
                have := BK7.out
                rw [hW7]
                simpa using this
              have hlow7 : Below wr.heap.size wr W7 := by
                rw [hW7]
                exact B5.out.trans ((((Only.refl (fun x => x = R) w5).set rfl _).set rfl _).below B5.out.size (fun x hx => by rw [hx]; exact hRr))
              have hown7 : W7.ownsRow w.heap.size 61 3 u6 done.length (ccells done) := by
                have h1 := own_below hT.out.1 B5.out
                rw [hW7]
                exact own_kept h1 fun x hx => (set_there _ (by have := (hT.out.1.lt x hx).2; omega)).trans (set_there _ (by have := (hT.out.1.lt x hx).2; omega))
              have e0 : W7.cell? ⟨R, 0, none⟩ = some (.string S1) := cell_here hb7
              have e1 : W7.cell? ⟨R, 1, none⟩ = some (.string S2) := cell_here hb7
              have e2 : W7.cell? ⟨R, 2, none⟩ = some (.bool G) := cell_here hb7
              have hdl := hT.out.2.1
              have OWN7 := Lib.hid hown7; have LOW7 := Lib.hid hlow7
              have hz7 : w.heap.size ≤ W7.heap.size := Nat.le_trans hT.out.2.2.2.2.size hlow7.size
              clear hW7 hb7 hlow7 hown7 c0 f0 c1 f1
              go_wp2_with (at_builtin; refine wpList_append_own _ rfl (.tmp 51) (.tmp 53) 35 rfl w.heap.size 61 i0 _ 3 40 Tryd.underlying35 hi hz0 hz1 hz2 rfl (by decide) _ _ _ rfl (World.ownsRow.alloc OWN7.out _) ⟨_, 0, none⟩ 1 1 [.string S1, .string S2, .bool G] rfl rfl (new_cells _ #[_, _, _] _) (by intro u hu; simp at hu; rcases hu with rfl | rfl | rfl <;> rfl) (by have := hT.out.2.2.1; have := recAll_len done; unfold maxLen; omega) (by have := hT.out.2.2.1; have := recAll_len done; omega) (le_alloc hz7) ?_)
              intro v8 w8 hown8 hg8 _
              have hb8 : Below w.heap.size w w8 := ((hT.out.2.2.2.2.chain LOW7.out).alloc hz7 _).grown hg8 (le_alloc hz7) (fun x hx => (OWN7.out.lt x hx).1)
              go_wp2
              go_roundw
              case rel =>
                refine ⟨j + 1, q2, done ++ [⟨k1, v1, G⟩], by omega, by go_num, rfl, by have := LE1.out; have := LE2.out; omega, by have := LE2.out; omega, Lib.hid ⟨CRow.cut hown8 (by rw [List.length_append]; rfl) (by rw [ccells_app, HS1.out, HS2.out]; rfl), by rw [List.length_append]; show done.length + 1 ≤ _; omega, ?_, NX.out, hb8⟩⟩
                rw [recAll_snoc, List.length_append, recOne_len]
                have h1 := LE1.out; have h2 := LE2.out; have h3 := hT.out.2.2.1
                have h4 : (Ch.val ⟨k1, v1, G⟩).length ≤ v1.length := by unfold Ch.val; split <;> simp
                show _ + (12 + k1.length + _) + 4 ≤ _
                omega
              case measure => simp [intOf]; omega
        · have dp : decide ((m : Int) < (p : Int) + 4) = true := by simp; omega
          have hcp := chgL_P b p
          rw [HM.out, if_neg hp] at hcp
          have hno := chgs_fail b N j p done hlt (by have := HM.out; omega) HNN.out hT.out.2.2.2.1 hcp
          have NO := Lib.hid hno
          clear hcp hno
          go_wp2
          go_ret2
          rw [NO.out]
          exact ⟨⟨_, rfl, fun l hl => by cases hl⟩, hT.out.2.2.2.2⟩
      · obtain rfl : j = N := by omega
        have hjr : decide ((j : Int) < j) = false := by simp
        have hch := hT.out.2.2.2.1
        rw [Nat.sub_self] at hch
        have hend := chgs_end b j p done (by have := HM.out; omega) HNN.out hch
        have hrow := hT.out.1.rd
        obtain ⟨Ao, co, rfl⟩ := own_form hT.out.1
        have hrec := fun W (hb : Below wr.heap.size wr W) => refRecord_any Ao co done (by rw [recL_len]; have := hT.out.2.2.1; omega) W (hrow.below hb)
        obtain ⟨dl, hdl⟩ : ∃ n, done.length = n := ⟨_, rfl⟩
        simp only [hdl] at hrec
        obtain ⟨RS, hRS⟩ : ∃ S : ByteArray, S = ⟨(recL done).toArray⟩ := ⟨_, rfl⟩
        obtain ⟨BS, hBS⟩ : ∃ S : ByteArray, S = ⟨b.toArray⟩ := ⟨_, rfl⟩
        have hbt : ∀ W, Below wr.heap.size wr W → (convert 40 9 (.slice (some ⟨g, o, none⟩) m c)).run Tryd.prog W = .ok (.string BS) W := fun W hb => by
          have := (HRD.out.below (hT.out.2.2.2.2.chain hb)).text
          rw [HM.out] at this
          rw [hBS]; exact this
        have heq : (RS.toList == BS.toList) = (changesL b).isSome := by
          rw [hend, hRS, hBS, ByteArray.toList_eq, ByteArray.toList_eq]
          show (recL done == b) = _
          by_cases h : recL done = b <;> simp [h]
        have hval : ∀ l, changesL b = some l → l = done := fun l hl => by
          rw [hend] at hl
          split at hl
          · injection hl with hl; exact hl.symm
          · cases hl
        have RECC := Lib.hid hrec; have HRS := Lib.hid hRS; have BT := Lib.hid hbt; have EQ := Lib.hid heq; have VAL := Lib.hid hval; have ROW := Lib.hid hrow
        have LOW := Lib.hid hT.out.2.2.2.2; have HDL := Lib.hid hdl
        rw [hdl]
        clear hch hend hrec hRS hBS hbt heq hval hrow hdl
        go_upto_region 18 with fail
        refine wp_region_held_drew (S := (fun W => (convert 40 9 (.slice (some ⟨g, o, none⟩) m c)).run Tryd.prog W = .ok (.string BS) W)) (by kernel_rfl) (BT.out _ (Below.refl _ _).drew) (fun hHeld => ?_)
        refine wpAnyH_take (i := 0) (oi := _) (v := ?v1) (by simp only [List.getElem?_toArray, List.getElem?_cons_succ, List.getElem?_cons_zero]; rfl) (by kernel_rfl) (by kernel_rfl) (by kernel_rfl) (by exact fun _ _ _ h => h) (Or.inl ⟨by rfl, ?hy1⟩) (by assumption) ?rest1
        case hy1 => (intro w hSw; (try dsimp only at hSw); go_simp; try with_reducible rfl)
        try simp only [Act.put, List.setIfInBounds_toArray, List.set_cons_zero, List.set_cons_succ]
        refine wpAnyH_take (i := 1) (oi := _) (v := ?v2) (by simp only [List.getElem?_toArray, List.getElem?_cons_succ, List.getElem?_cons_zero]; rfl) (by kernel_rfl) (by kernel_rfl) (by kernel_rfl) (by exact fun _ _ _ h => h) (Or.inl ⟨by rfl, ?hy2⟩) (by assumption) ?rest2
        case hy2 => (intro w hSw; (try dsimp only at hSw); go_simp; try with_reducible rfl)
        try simp only [Act.put, List.setIfInBounds_toArray, List.set_cons_zero, List.set_cons_succ]
        refine wpAnyH_take (i := 4) (oi := _) (v := ?v3) (by simp only [List.getElem?_toArray, List.getElem?_cons_succ, List.getElem?_cons_zero]; rfl) (by kernel_rfl) (by kernel_rfl) (by kernel_rfl) (by exact fun _ _ _ h => h) (Or.inl ⟨by rfl, ?hy3⟩) (by assumption) ?rest3
        case hy3 => (intro w hSw; (try dsimp only at hSw); go_simp; try with_reducible rfl)
        try simp only [Act.put, List.setIfInBounds_toArray, List.set_cons_zero, List.set_cons_succ]
        refine wpAnyH_take (i := 5) (oi := _) (v := ?v4) (by simp only [List.getElem?_toArray, List.getElem?_cons_succ, List.getElem?_cons_zero]; rfl) (by kernel_rfl) (by kernel_rfl) (by kernel_rfl) (by exact fun _ _ _ h => h) (Or.inl ⟨by rfl, ?hy4⟩) (by assumption) ?rest4
        case hy4 => (intro w hSw; (try dsimp only at hSw); go_simp; try with_reducible rfl)
        try simp only [Act.put, List.setIfInBounds_toArray, List.set_cons_zero, List.set_cons_succ]
        refine wpAnyH_ready (rs := [2]) (by kernel_rfl) (by simp) ?_
        refine AllReadyH.cons (o := _) (by simp only [List.getElem?_toArray, List.getElem?_cons_succ, List.getElem?_cons_zero]; rfl) (fun K hK => ?_) AllReadyH.nil
        go_simp
        go_at_call 39
        (with_reducible refine (RECC.out _ (Below.refl _ _).drew).mono ?_)
        rintro e w3 ⟨⟨v3, rfl, hB3⟩, hb3⟩
        have hcv : (convert 40 9 v3).run Tryd.prog w3 = .ok (.string RS) w3 := by rw [HRS.out]; exact hB3.text
        have B3 := Lib.hid ((Below.refl wr.heap.size wr).drew.trans hb3); clear hb3 hB3
        dsimp only
        refine hK.out _ _ (BT.out _ B3.out) (fun hHeld => ?_)
        clear hK K
        try simp only [Act.put, List.setIfInBounds_toArray, List.set_cons_zero, List.set_cons_succ]
        refine wpAnyH_take (i := 7) (oi := _) (v := ?v6) (by simp only [List.getElem?_toArray, List.getElem?_cons_succ, List.getElem?_cons_zero]; rfl) (by kernel_rfl) (by kernel_rfl) (by kernel_rfl) (by exact fun _ _ _ h => h) (Or.inl ⟨by rfl, ?hy6⟩) (by assumption) ?rest6
        case hy6 => (intro w hSw; (try dsimp only at hSw); go_simp; try with_reducible rfl)
        try simp only [Act.put, List.setIfInBounds_toArray, List.set_cons_zero, List.set_cons_succ]
        refine wpAnyH_ready (rs := [3]) (by kernel_rfl) (by simp) ?_
        refine AllReadyH.cons (o := _) (by simp only [List.getElem?_toArray, List.getElem?_cons_succ, List.getElem?_cons_zero]; rfl) (fun K hK => ?_) AllReadyH.nil
        go_simp
        refine hK.out _ _ (by assumption) (fun hHeld => ?_)
        clear hK K
        try simp only [Act.put, List.setIfInBounds_toArray, List.set_cons_zero, List.set_cons_succ]
        refine wpAnyH_take (i := 6) (oi := _) (v := ?v8) (by simp only [List.getElem?_toArray, List.getElem?_cons_succ, List.getElem?_cons_zero]; rfl) (by kernel_rfl) (by kernel_rfl) (by kernel_rfl) (by exact fun _ _ _ h => h) (Or.inl ⟨by rfl, ?hy8⟩) (by assumption) ?rest8
        case hy8 => (intro w hSw; (try dsimp only at hSw); go_simp; try with_reducible rfl)
        try simp only [Act.put, List.setIfInBounds_toArray, List.set_cons_zero, List.set_cons_succ]
        refine wpAnyH_take (i := 8) (oi := _) (v := ?v9) (by simp only [List.getElem?_toArray, List.getElem?_cons_succ, List.getElem?_cons_zero]; rfl) (by kernel_rfl) (by kernel_rfl) (by kernel_rfl) (by exact fun _ _ _ h => h) (Or.inl ⟨by rfl, ?hy9⟩) (by assumption) ?rest9
        case hy9 => (intro w hSw; (try dsimp only at hSw); go_simp; try with_reducible rfl)
        try simp only [Act.put, List.setIfInBounds_toArray, List.set_cons_zero, List.set_cons_succ]
        refine wpAnyH_done (by kernel_rfl) ?_ _
        rw [EQ.out]
        clear hcv
        go_wp2
        go_ret2
        exact ⟨⟨_, rfl, fun l hl => by rw [VAL.out l hl, ← HDL.out]; exact ROW.out.below B3.out⟩, LOW.out.chain B3.out⟩
  · have d4 : decide ((m : Int) < 4) = true := by simp; omega
    have hno : changesL b = none := by unfold changesL; rw [if_neg (by omega)]
    have NO := Lib.hid hno
    rw [hm]
    clear hno h hm hl
    go_enter Tryd.func34, Tryd.ntmps34
    go_wp2
    go_ret2
    rw [NO.out]
    exact ⟨⟨_, rfl, fun l hl => by cases hl⟩, Below.refl _ _⟩
end Go.Proofs.YtklhdffbaglkdaaDoor
namespace Go.Proofs.YtklhdffbaglkdaaDoor
open Go.RowKit
set_option linter.unusedVariables false
set_option linter.unusedSimpArgs false

theorem box4_of {w : World} {b : Nat} {c0 c1 c2 c3 : Value} {t : TypeId} (h : w.heap[b]? = some (.cells #[c0, c1, c2, c3] t (0, 0))) :
    (w.cell? ⟨b, 0, none⟩ = some c0 ∧ w.cell? ⟨b, 1, none⟩ = some c1 ∧ w.cell? ⟨b, 2, none⟩ = some c2 ∧ w.cell? ⟨b, 3, none⟩ = some c3) ∧ w.frozen? ⟨b, 0, none⟩ = false ∧ w.frozen? ⟨b, 1, none⟩ = false ∧ w.frozen? ⟨b, 2, none⟩ = false ∧ w.frozen? ⟨b, 3, none⟩ = false :=
  ⟨⟨cell_here h, cell_here h, cell_here h, cell_here h⟩, frozen_here h _, frozen_here h _, frozen_here h _, frozen_here h _⟩
/-- the reference's tape at p: its fields, its bytes by the slice v -/
structure RT (w : World) (p : Nat) (v : Value) (t : TP) : Prop where
  box : w.heap[p]? = some (.cells #[v, .int .i64 t.sure, .int .i64 t.fuse, .bool t.down] 42 (0, 0))
  rd : RdAt w v t.b
  far : v.ownBlock ≠ some p
theorem RT.lt {w : World} {p : Nat} {v : Value} {t : TP} (h : RT w p v t) : p < w.heap.size := (Array.getElem?_eq_some_iff.1 h.box).1
theorem RT.keep {w w' : World} {p : Nat} {v : Value} {t : TP} (h : RT w p v t) (hs : w.heap.size ≤ w'.heap.size) (hp : w'.heap[p]? = w.heap[p]?) (hb : ∀ g, v.ownBlock = some g → w'.heap[g]? = w.heap[g]?) : RT w' p v t :=
  ⟨hp.trans h.box, h.rd.keep hs hb, h.far⟩
theorem RT.below {w w' : World} {p : Nat} {v : Value} {t : TP} (h : RT w p v t) (hb : Below w.heap.size w w') : RT w' p v t := h.keep hb.size (hb.block _ h.lt) fun g hg => hb.block g (h.rd.lt hg)
theorem RT.only {S : Nat → Prop} {w w' : World} {p : Nat} {v : Value} {t : TP} (h : RT w p v t) (ho : Only S w w') (hp : ¬ S p) (hv : ∀ g, v.ownBlock = some g → ¬ S g) : RT w' p v t :=
  h.keep ho.size (ho.block _ h.lt hp) fun g hg => ho.block g (h.rd.lt hg) (hv g hg)
set_option maxRecDepth 100000 in
theorem refLeft_any (p : Nat) (v : Value) (t : TP) (n : Nat) (hn : n ≤ 4611686018427387904) (w : World) (h : RT w p v t) (hf : -1 ≤ t.fuse ∧ t.fuse ≤ 9223372036854775807) :
    Calls Tryd.prog 47 #[.pointer (some ⟨p, 0, none⟩), .int .i64 n] w fun e w' => e = .returned (.int .i64 (t.left n)) ∧ w = w' := by
  obtain ⟨⟨e0, e1, e2, e3⟩, -⟩ := box4_of h.box
  unfold TP.left
  obtain ⟨b, s, f, d⟩ := t
  simp only at e0 e1 e2 e3 hf ⊢
  clear h
  cases d with
  | true =>
    go_enter Tryd.func47, Tryd.ntmps47
    go_wp2
    go_ret
    exact ⟨rfl, rfl⟩
  | false =>
    by_cases h1 : f < 0
    · have d1 : decide (f < 0) = true := by simp [h1]
      rw [if_neg (by decide), if_pos (.inl h1)]
      go_enter Tryd.func47, Tryd.ntmps47
      go_wp2
      go_ret
      exact ⟨rfl, rfl⟩
    · have d1 : decide (f < 0) = false := by simp [h1]
      by_cases h2 : (n : Int) ≤ f
      · have d2 : decide ((n : Int) ≤ f) = true := by simp [h2]
        rw [if_neg (by decide), if_pos (.inr h2)]
        have H1 := Lib.hid h1; have H2 := Lib.hid h2; clear h1 h2
        go_enter Tryd.func47, Tryd.ntmps47
        go_wp2
        go_ret
        exact ⟨rfl, rfl⟩
      · have d2 : decide ((n : Int) ≤ f) = false := by simp [h2]
        rw [if_neg (by decide), if_neg (by omega)]
        have hff : ((f.toNat : Nat) : Int) = f := by omega
        rw [hff]
        have H1 := Lib.hid h1; have H2 := Lib.hid h2; clear h1 h2 hff
        go_enter Tryd.func47, Tryd.ntmps47
        go_wp2
        go_ret
        exact ⟨rfl, rfl⟩
set_option maxRecDepth 100000 in
theorem refUse_any (p : Nat) (v : Value) (t : TP) (k n : Nat) (hk : k ≤ 4611686018427387904) (hn : n ≤ 4611686018427387904) (w : World) (h : RT w p v t) (hf : -1 ≤ t.fuse ∧ t.fuse ≤ 9223372036854775807) :
    Calls Tryd.prog 46 #[.pointer (some ⟨p, 0, none⟩), .int .i64 k, .int .i64 n] w fun e w' => e = .returned (.int .i64 (t.use k n).2) ∧ RT w' p v (t.use k n).1 ∧ Only (fun b => b = p) w w' := by
  obtain ⟨⟨e0, e1, e2, e3⟩, f0, f1, f2, f3⟩ := box4_of h.box
  unfold TP.use
  obtain ⟨b, s, f, d⟩ := t
  simp only at e0 e1 e2 e3 hf ⊢
  have H := Lib.hid h; clear h
  cases d with
  | true =>
    go_enter Tryd.func46, Tryd.ntmps46
    go_wp2
    go_ret
    exact ⟨rfl, H.out, Only.refl _ _⟩
  | false =>
    by_cases h1 : k < n
    · have d1 : decide ((k : Int) < n) = true := by simp [h1]
      rw [if_neg (by decide), if_pos h1]
      have H1 := Lib.hid h1; clear h1
      go_enter Tryd.func46, Tryd.ntmps46
      go_wp2
      go_ret
      refine ⟨rfl, ⟨?_, ?_, H.out.far⟩, ((Only.refl (fun b => b = p) w).set (b := p) rfl _).set (b := p) rfl _⟩
      · have := set_here (o := 2) (set_here (o := 3) H.out.box (.bool true)) (.int .i64 0)
        simpa using this
      · exact H.out.rd.keep (by rw [set_size, set_size]; exact Nat.le_refl _) fun g hg => by
          have : g ≠ p := fun e => H.out.far (by rw [hg, e])
          rw [set_there _ this, set_there _ this]
    · have d1 : decide ((k : Int) < n) = false := by simp; omega
      by_cases h2 : 0 < f
      · have d2 : decide (0 < f) = true := by simp [h2]
        rw [if_neg (by decide), if_neg h1, if_pos h2]
        have hw : IntKind.i64.wrap (f - n) = f - n := by rw [IntKind.wrap_i64]; omega
        have H1 := Lib.hid h1; have H2 := Lib.hid h2; clear h1 h2
        go_enter Tryd.func46, Tryd.ntmps46
        go_wp2
        go_ret
        refine ⟨rfl, ⟨?_, ?_, H.out.far⟩, (Only.refl (fun b => b = p) w).set (b := p) rfl _⟩
        · have := set_here (o := 2) H.out.box (.int .i64 (f - n))
          simpa using this
        · exact H.out.rd.keep (by rw [set_size]; exact Nat.le_refl _) fun g hg => by
            have : g ≠ p := fun e => H.out.far (by rw [hg, e])
            rw [set_there _ this]
      · have d2 : decide (0 < f) = false := by simp; omega
        rw [if_neg (by decide), if_neg h1, if_neg h2]
        have H1 := Lib.hid h1; have H2 := Lib.hid h2; clear h1 h2
        go_enter Tryd.func46, Tryd.ntmps46
        go_wp2
        go_ret
        exact ⟨rfl, H.out, Only.refl _ _⟩
end Go.Proofs.YtklhdffbaglkdaaDoor
namespace Go.Proofs.YtklhdffbaglkdaaDoor
open Go.RowKit
set_option linter.unusedVariables false
set_option linter.unusedSimpArgs false

set_option maxRecDepth 100000 in
theorem refNew_any (w : World) : Calls Tryd.prog 11 #[] w fun e w' => (∃ p, e = .returned (.pointer (some ⟨p, 0, none⟩)) ∧ w.heap.size ≤ p ∧ RT w' p (.slice none 0 0) TP.new) ∧ Below w.heap.size w w' := by
  go_enter Tryd.func11, Tryd.ntmps11
  go_wp2
  go_ret
  exact ⟨⟨_, rfl, Nat.le_refl _, heap_alloc_last w _, RdAt.nil _, fun h => by cases h⟩, (Below.refl _ _).alloc (Nat.le_refl _) _⟩
set_option maxRecDepth 100000 in
set_option maxHeartbeats 4000000 in
theorem refWrite_any (p : Nat) (v : Value) (t : TP) (bv : Value) (l : List UInt8) (hl : l.length ≤ 1000000000) (htl : t.b.length ≤ 1000000000) (w : World) (h : RT w p v t) (hf : -1 ≤ t.fuse ∧ t.fuse ≤ 9223372036854775807) (hb : RdW w bv l) :
    Calls Tryd.prog 42 #[.pointer (some ⟨p, 0, none⟩), bv] w fun e w' => e = .returned (.int .i64 (t.write l).2) ∧ (∃ v', RT w' p v' (t.write l).1 ∧ ∀ g, v'.ownBlock = some g → w.heap.size ≤ g) ∧ Only (fun b => b = p) w w' := by
  obtain ⟨i0, hi, hz0, hz1, hz2⟩ := info_parts Tryd.infoByte
  have hle := t.left_le l.length
  have hlf := refLeft_any p v t l.length (by omega) w h hf
  have hb0 := hb
  obtain ⟨m, hm⟩ : ∃ m, t.left l.length = m := ⟨_, rfl⟩
  obtain ⟨n, hn⟩ : ∃ n, l.length = n := ⟨_, rfl⟩
  obtain ⟨q, hq⟩ : ∃ q, t.b.length = q := ⟨_, rfl⟩
  have hltk : (l.take m).length = m := by rw [List.length_take]; omega
  obtain ⟨A, c, rfl, hc, -, -⟩ := hb
  have hA := (hb0.take m (by omega)).news
  obtain ⟨A1, c1, e1, hA1⟩ := hA
  obtain ⟨B, d, rfl, hB⟩ := h.rd.news
  rw [hltk] at e1 hA1
  cases e1
  have hAW : ∀ W, Below w.heap.size w W → (A = none ∧ m = 0 ∧ c = 0) ∨ ∃ ad, A = some ad ∧ ∀ j u, (cells (l.take m))[j]? = some u → W.cell? (ad.add j) = some u := fun W hbw => by
    have := ((hb0.take m (by omega)).below hbw).news
    obtain ⟨A1, c1, e1, hA1⟩ := this
    rw [hltk] at e1 hA1
    cases e1
    exact hA1
  have hBW : ∀ W, Below w.heap.size w W → (B = none ∧ q = 0 ∧ d = 0) ∨ ∃ ad, B = some ad ∧ ∀ j u, (cells t.b)[j]? = some u → W.cell? (ad.add j) = some u := fun W hbw => by
    have := (h.rd.below hbw).news
    obtain ⟨A1, c1, e1, hA1⟩ := this
    rw [hq] at e1 hA1
    cases e1
    exact hA1
  have hPW : ∀ W, Below w.heap.size w W → W.cell? ⟨p, 0, none⟩ = some (.slice B q d) ∧ W.frozen? ⟨p, 0, none⟩ = false := fun W hbw => by
    have := box4_of ((hbw.block p h.lt).trans h.box)
    rw [hq] at this
    exact ⟨this.1.1, this.2.1⟩
  have hlb : (cells t.b).length = q * 1 := by rw [Nat.mul_one, ← hq]; simp [cells]
  have hll : (cells (l.take m)).length = m * 1 := by rw [Nat.mul_one, ← hltk]; simp [cells]
  have hmc : (m : Int) ≤ c := by omega
  have hm0 : (0 : Int) ≤ m := by omega
  rw [hm, hn] at hlf hle
  have huse := fun (v' : Value) (W : World) (hr : RT W p v' ⟨t.b ++ l.take m, t.sure, t.fuse, t.down⟩) => refUse_any p v' ⟨t.b ++ l.take m, t.sure, t.fuse, t.down⟩ m n (by omega) (by omega) W hr hf
  unfold TP.write
  rw [hm, hn]
  have c0 : w.cell? ⟨p, 0, none⟩ = _ := (hPW _ (Below.refl w.heap.size w)).1
  have c1 := (hPW _ ((Below.refl w.heap.size w).alloc (Nat.le_refl _) (.cells #[] 5))).1
  have HL := Lib.hid hlf; have HA := Lib.hid hAW; have HB := Lib.hid hBW; have HP := Lib.hid hPW; have HU := Lib.hid huse; have HLB := Lib.hid hlb; have HLL := Lib.hid hll; have HT := Lib.hid h
  have hmn : m ≤ 1000000000 := by omega
  have hqn : q ≤ 1000000000 := by omega
  clear hlf hAW hBW hPW huse hlb hll h hb0 hA1 hB hltk hn hm hq hl htl hf
  go_enter Tryd.func42, Tryd.ntmps42
  go_wp2_with fail
  refine HL.out.mono ?_
  rintro e _ ⟨rfl, rfl⟩
  dsimp only
  go_upto_region 2 with fail
  go_region_law (first
    | (refine step_append_opt rfl (.tmp 11) (.tmp 15) 40 rfl w.heap.size 5 i0 _ 1 1 Tryd.underlying40 hi hz0 hz1 hz2 rfl (by decide) (.slice (some ⟨w.heap.size, 0, none⟩) 0 0) 0 [] rfl (by refine own_newH w _ _ _ _ _ ?_ rfl (Nat.le_refl _); rfl) B q d (cells t.b) rfl HLB.out (by refine HB.out _ ?_; refine bel_new w _ (.cells #[] 5) ?_ ?_ ?_ ?_ <;> rfl) (cells_one _) ?_ ?_ ?_ ?_; (· unfold maxLen; omega); (· omega); (· show _ ≤ (w.alloc (.cells #[] 5)).heap.size; simp); intro v1 w1 hown1 hgrow1 hat1; have b1 : Below w.heap.size w w1 := (Below.grown (by refine bel_new w _ (.cells #[] 5) ?_ ?_ ?_ ?_ <;> rfl) hgrow1 (by show _ ≤ (w.alloc (.cells #[] 5)).heap.size; simp) (fun k hk => by have hk2 : some w.heap.size = some k := hk; injection hk2 with hk2; omega)); simp only [Nat.zero_add, List.nil_append] at hown1; obtain ⟨A5, c5, rfl⟩ := own_form hown1; have c2 := (HP.out _ b1).1)
    | (refine step_append_opt rfl (.tmp 16) (.tmp 19) 40 rfl w.heap.size 5 i0 _ 1 1 Tryd.underlying40 hi hz0 hz1 hz2 rfl (by decide) _ _ _ rfl hown1 A m c (cells (l.take m)) rfl HLL.out (HA.out _ b1) (cells_one _) ?_ ?_ ?_ ?_; (· unfold maxLen; omega); (· omega); (· exact b1.size); intro v2 w2 hown2 hgrow2 hat2; have b2 := b1.grown hgrow2 b1.size (fun k hk => (hown1.lt k hk).1); obtain ⟨A6, c6, rfl⟩ := own_form hown2; obtain ⟨c3, c4⟩ := HP.out _ b2))
  all_goals
    have hrow : Buf w2 w.heap.size (.slice A6 (q + m) c6) (t.b ++ l.take m) := Buf.cut hown2 (by have h1 := HLB.out; have h2 := HLL.out; simp only [cells, List.length_map, Nat.mul_one] at h1 h2; rw [List.length_append, h1, h2]) (cells_app _ _).symm
    have hlt2 := hown2.lt
    have hpl := HT.out.lt
    have hrt : RT (w2.setCell ⟨p, 0, none⟩ (.slice A6 (q + m) c6)) p (.slice A6 (q + m) c6) ⟨t.b ++ l.take m, t.sure, t.fuse, t.down⟩ := by
      refine ⟨?_, hrow.rd.keep (by rw [set_size]; exact Nat.le_refl _) fun g hg => set_there _ (by have := (hlt2 g hg).1; omega), fun e => by have := (hlt2 _ e).1; omega⟩
      have := set_here (o := 0) ((b2.block p hpl).trans HT.out.box) (.slice A6 (q + m) c6)
      simpa using this
    have ho : Only (fun b => b = p) w (w2.setCell ⟨p, 0, none⟩ (.slice A6 (q + m) c6)) := (Only.of_below (S := fun b => b = p) b2).set (b := p) rfl _
    obtain ⟨wz, hwz⟩ : ∃ wz, wz = w2.setCell ⟨p, 0, none⟩ (.slice A6 (q + m) c6) := ⟨_, rfl⟩
    have hge : ∀ g, (Value.slice A6 (q + m) c6).ownBlock = some g → w.heap.size ≤ g := fun g hg => (hlt2 g hg).1
    change Exit.then _ _ _ _ (w2.setCell ⟨p, 0, none⟩ (.slice A6 (q + m) c6))
    rw [← hwz] at hrt ho ⊢
    have HRT := Lib.hid hrt; have HO := Lib.hid ho; have HGE := Lib.hid hge
    clear hrt ho hge hwz hlt2 hrow hown1 hown2 hgrow1 hgrow2 hat1 hat2 b1 b2 c0 c1 c2 c3 c4 hpl
    go_wp2_with fail
    refine (HU.out _ _ HRT.out).mono ?_
    rintro e w3 ⟨rfl, hr3, ho3⟩
    have HR3 := Lib.hid hr3; have HO3 := Lib.hid (HO.out.trans ho3); clear hr3 ho3
    dsimp only
    go_wp2
    go_ret
    exact ⟨rfl, ⟨_, HR3.out, HGE.out⟩, HO3.out⟩
end Go.Proofs.YtklhdffbaglkdaaDoor
