/- JSON: the law JsonBack (wip/gen/gback.py has written it). -/
import Derived.Test.YtoijjcbcmjdggaaDoorJsonRFits
import Derived.Test.YtoijjcbcmjdggaaDoorJsonRShow
import Derived.Test.YtoijjcbcmjdggaaDoorJsonSmall
import Derived.Test.YtoijjcbcmjdggaaDoorJsonSameT
import Derived.Test.YtoijjcbcmjdggaaDoorJsonFields
import Derived.Test.YtoijjcbcmjdggaaDoorJsonPrint
namespace Go.Proofs.YtoijjcbcmjdggaaDoor
open Go.RowKit
set_option linter.unusedVariables false
set_option linter.unusedSimpArgs false

set_option maxRecDepth 100000 in
set_option maxHeartbeats 20000000 in
theorem refJSON_any (v : V) (w : World) (L N : Nat) (cs : List Value) (hl : v.fits 8 = true → v.show.length ≤ 10000000000000) (hv : VIs w L N v cs) (hN : N ≤ w.heap.size) :
    Calls Tryd.prog 14 #[.agg cs.toArray] w fun e w' => e = .returned (.string ⟨(printV v).toArray⟩) ∧ Below w.heap.size w w' := by
  obtain ⟨A, c, A', c', rfl⟩ := hv.form
  obtain ⟨W1, hW1⟩ : ∃ W1, W1 = w.alloc (.cells #[.int .i64 v.kind, .int .i64 v.num, .string ⟨v.text.toArray⟩, .slice A v.list.length c, .slice A' v.keys.length c'] 25) := ⟨_, rfl⟩
  have b1 : Below w.heap.size w W1 := by rw [hW1]; exact (Below.refl _ _).alloc (Nat.le_refl _) _
  have x1 : W1.heap[w.heap.size]? = some (.cells #[.int .i64 v.kind, .int .i64 v.num, .string ⟨v.text.toArray⟩, .slice A v.list.length c, .slice A' v.keys.length c'] 25 (0, 0)) := by rw [hW1]; exact heap_alloc_last w _
  have v1 := hv.below (b1.mono hN)
  have hN1 : N ≤ W1.heap.size := Nat.le_trans hN b1.size
  have c1 : Calls Tryd.prog 13 #[.agg #[.int .i64 v.kind, .int .i64 v.num, .string ⟨v.text.toArray⟩, .slice A v.list.length c, .slice A' v.keys.length c'], .int .i64 8] W1 fun e w' => e = .returned (.bool (v.fits 8)) ∧ Below W1.heap.size W1 w' := refFits_any v 8 W1 L N _ (by decide) v1 hN1
  obtain ⟨⟨p0, p1, p2, p3, p4⟩, -⟩ := box_of x1
  rw [hW1] at p0 p1 p2 p3 p4
  cases hf : v.fits 8 with
  | false =>
    have hp : printV v = [] := by unfold printV; rw [hf]; rfl
    rw [hp]
    rw [hf] at c1
    have HW1 := Lib.hid hW1; have B1 := Lib.hid b1; have C1 := Lib.hid c1
    clear hW1 b1 x1 v1 c1 hv hl hp hf hN hN1
    go_enter Tryd.func14, Tryd.ntmps14
    go_wp2_with fail
    rw [← HW1.out]
    refine (C1.out).mono ?_
    rintro e2 w2 ⟨rfl, hb2⟩
    dsimp only
    have HB2 := Lib.hid hb2
    clear hb2 p0 p1 p2 p3 p4
    go_wp2_with fail
    go_ret
    exact ⟨rfl, B1.out.chain HB2.out⟩
  | true =>
    have hp : printV v = v.show := by unfold printV; rw [hf]; rfl
    have hl' := hl hf
    have hg := fits_isgood hf
    have c2 : ∀ wq, Below W1.heap.size W1 wq → Calls Tryd.prog 27 #[.agg #[.int .i64 v.kind, .int .i64 v.num, .string ⟨v.text.toArray⟩, .slice A v.list.length c, .slice A' v.keys.length c']] wq fun e w' => e = .returned (.string ⟨v.show.toArray⟩) ∧ Below wq.heap.size wq w' := fun wq hb => refShow_any v wq L N _ hg hl' (v1.below (hb.mono hN1)) (Nat.le_trans hN1 hb.size)
    obtain ⟨S, hS⟩ : ∃ S : ByteArray, (⟨v.show.toArray⟩ : ByteArray) = S := ⟨_, rfl⟩
    rw [hp, hS]
    rw [hS] at c2
    rw [hf] at c1
    have HW1 := Lib.hid hW1; have B1 := Lib.hid b1; have C1 := Lib.hid c1; have C2 := Lib.hid c2; have X1 := Lib.hid x1
    clear hW1 b1 x1 v1 c1 c2 hv hl hl' hg hp hf hN hN1 hS
    go_enter Tryd.func14, Tryd.ntmps14
    go_wp2_with fail
    rw [← HW1.out]
    refine (C1.out).mono ?_
    rintro e2 w2 ⟨rfl, hb2⟩
    dsimp only
    have hc := C2.out w2 hb2
    clear p0 p1 p2 p3 p4
    obtain ⟨⟨p0, p1, p2, p3, p4⟩, -⟩ := box_of (box_below X1.out hb2)
    have HB2 := Lib.hid hb2; have HC := Lib.hid hc
    clear hb2 hc
    go_wp2_with fail
    refine (HC.out).mono ?_
    rintro e3 w3 ⟨rfl, hb3⟩
    dsimp only
    have HB3 := Lib.hid hb3
    clear hb3 p0 p1 p2 p3 p4
    go_wp2_with fail
    go_ret
    exact ⟨rfl, B1.out.chain (HB2.out.chain HB3.out)⟩
set_option maxRecDepth 100000 in
set_option maxHeartbeats 40000000 in
theorem jsonBack_at (ANS : ∀ wq, KitIn wq.heap.size wq → Calls Tryd.prog 10 #[] wq fun e w' => e = .returned (.bool true) ∧ Below wq.heap.size wq w')
    (PAR : ∀ (s : List UInt8) (hs : s.length ≤ 9223372036854775807) (w : World) (hk : KitIn w.heap.size w), Calls Tryd.prog 15 #[.string ⟨s.toArray⟩] w fun e w' => (∃ cs, e = .returned (.tuple #[.agg cs.toArray, .int .i64 (parseV s).2]) ∧ VIs w' w.heap.size w'.heap.size (parseV s).1 cs) ∧ Below w.heap.size w w')
    (v : V) (w : World) (cs : List Value) (hk : KitIn w.heap.size w) (hv : VIs w 0 w.heap.size v cs) (hl : v.fits 8 = true → v.show.length ≤ 1000000000) :
    Calls Tryd.prog 3 #[.agg cs.toArray] w fun e w' => e = .returned (.bool true) ∧ Below w.heap.size w w' := by
  obtain ⟨A, c, A', c', rfl⟩ := hv.form
  obtain ⟨W1, hW1⟩ : ∃ W1, W1 = w.alloc (.cells #[.int .i64 v.kind, .int .i64 v.num, .string ⟨v.text.toArray⟩, .slice A v.list.length c, .slice A' v.keys.length c'] 25) := ⟨_, rfl⟩
  have b1 : Below w.heap.size w W1 := by rw [hW1]; exact (Below.refl _ _).alloc (Nat.le_refl _) _
  have x1 : W1.heap[w.heap.size]? = some (.cells #[.int .i64 v.kind, .int .i64 v.num, .string ⟨v.text.toArray⟩, .slice A v.list.length c, .slice A' v.keys.length c'] 25 (0, 0)) := by rw [hW1]; exact heap_alloc_last w _
  have v1 := hv.below b1
  have k1 : KitIn W1.heap.size W1 := (hk.below b1).more b1.size
  have hle : w.heap.size ≤ W1.heap.size := b1.size
  have c1 : Calls Tryd.prog 9 #[.agg #[.int .i64 v.kind, .int .i64 v.num, .string ⟨v.text.toArray⟩, .slice A v.list.length c, .slice A' v.keys.length c'], .int .i64 12] W1 fun e w' => e = .returned (.bool (v.smallB 12)) ∧ Below W1.heap.size W1 w' := small_any v 12 W1 0 w.heap.size _ (by decide) v1 hle
  have an := fun wq (hb : Below W1.heap.size W1 wq) => ANS wq ((k1.below hb).more hb.size)
  have pr : ∀ wq, Below W1.heap.size W1 wq → Calls Tryd.prog 11 #[.agg #[.int .i64 v.kind, .int .i64 v.num, .string ⟨v.text.toArray⟩, .slice A v.list.length c, .slice A' v.keys.length c']] wq fun e w' => e = .returned (.string ⟨(printV v).toArray⟩) ∧ Below wq.heap.size wq w' := fun wq hb => print_any v wq 0 w.heap.size _ (fun h => by have := hl h; omega) (v1.below (hb.mono hle)) (Nat.le_trans hle hb.size) ((k1.below hb).more hb.size)
  have gd : ∀ wq, Below W1.heap.size W1 wq → Calls Tryd.prog 12 #[.agg #[.int .i64 v.kind, .int .i64 v.num, .string ⟨v.text.toArray⟩, .slice A v.list.length c, .slice A' v.keys.length c']] wq (SaysB (v.fits 8) wq) := fun wq hb => good_any v wq 0 w.heap.size _ (v1.below (hb.mono hle)) (Nat.le_trans hle hb.size)
  have ft : ∀ wq, Below W1.heap.size W1 wq → Calls Tryd.prog 13 #[.agg #[.int .i64 v.kind, .int .i64 v.num, .string ⟨v.text.toArray⟩, .slice A v.list.length c, .slice A' v.keys.length c'], .int .i64 8] wq (SaysB (v.fits 8) wq) := fun wq hb => refFits_any v 8 wq 0 w.heap.size _ (by decide) (v1.below (hb.mono hle)) (Nat.le_trans hle hb.size)
  have js : ∀ wq, Below W1.heap.size W1 wq → Calls Tryd.prog 14 #[.agg #[.int .i64 v.kind, .int .i64 v.num, .string ⟨v.text.toArray⟩, .slice A v.list.length c, .slice A' v.keys.length c']] wq fun e w' => e = .returned (.string ⟨(printV v).toArray⟩) ∧ Below wq.heap.size wq w' := fun wq hb => refJSON_any v wq 0 w.heap.size _ (fun h => by have := hl h; omega) (v1.below (hb.mono hle)) (Nat.le_trans hle hb.size)
  have sv := small_slim 12 v
  obtain ⟨⟨p0, p1, p2, p3, p4⟩, -⟩ := box_of x1
  rw [hW1] at p0 p1 p2 p3 p4
  have HW1 := Lib.hid hW1; have B1 := Lib.hid b1; have C1 := Lib.hid c1; have AN := Lib.hid an; have PR := Lib.hid pr; have GD := Lib.hid gd; have FT := Lib.hid ft; have JS := Lib.hid js; have V1 := Lib.hid v1; have K1 := Lib.hid k1; have HLE := Lib.hid hle; have X1 := Lib.hid x1; have SV := Lib.hid sv; have HL := Lib.hid hl
  clear hW1 b1 c1 an pr gd ft js v1 k1 hle x1 sv hv hk hl
  cases hsv : v.smallB 12 with
  | false =>
    rw [hsv] at C1
    clear hsv
    go_enter Tryd.func3, Tryd.ntmps3
    go_wp2_with fail
    rw [← HW1.out]
    refine (C1.out).mono ?_
    rintro e2 w2 ⟨rfl, hb2⟩
    dsimp only
    have ha := AN.out w2 hb2
    have HA := Lib.hid ha; have HB2 := Lib.hid hb2
    clear ha hb2 p0 p1 p2 p3 p4
    go_wp2_with fail
    refine (HA.out).mono ?_
    rintro e3 w3 ⟨rfl, hb3⟩
    dsimp only
    have HB3 := Lib.hid hb3
    clear hb3
    go_wp2_with fail
    go_ret
    exact ⟨rfl, B1.out.chain (HB2.out.chain HB3.out)⟩
  | true =>
  rw [hsv] at C1
  obtain ⟨sl, dp⟩ := SV.out hsv
  clear hsv SV
  have DP := Lib.hid dp
  clear sl dp
  have ST : ∀ W, Below W1.heap.size W1 W → Box W w.heap.size (.int .i64 v.kind) (.int .i64 v.num) (.string ⟨v.text.toArray⟩) (.slice A v.list.length c) (.slice A' v.keys.length c') ∧ Below W1.heap.size W1 W := fun W hb => ⟨(box_of (box_below X1.out hb)).1, hb⟩
  have KEEP : ∀ (W W' : World), Below W.heap.size W W' → (Box W w.heap.size (.int .i64 v.kind) (.int .i64 v.num) (.string ⟨v.text.toArray⟩) (.slice A v.list.length c) (.slice A' v.keys.length c') ∧ Below W1.heap.size W1 W) → Box W' w.heap.size (.int .i64 v.kind) (.int .i64 v.num) (.string ⟨v.text.toArray⟩) (.slice A v.list.length c) (.slice A' v.keys.length c') ∧ Below W1.heap.size W1 W' := fun _ _ hb hs => ST _ (hs.2.chain hb)
  have GETB : ∀ (W : World), (Box W w.heap.size (.int .i64 v.kind) (.int .i64 v.num) (.string ⟨v.text.toArray⟩) (.slice A v.list.length c) (.slice A' v.keys.length c') ∧ Below W1.heap.size W1 W) → Below W1.heap.size W1 W := fun _ hs => hs.2
  have KEEP' := Lib.hid KEEP; have GETB' := Lib.hid GETB
  clear ST KEEP GETB
  obtain ⟨F, hF⟩ : ∃ F, v.fits 8 = F := ⟨_, rfl⟩
  obtain ⟨P, hP⟩ : ∃ P, printV v = P := ⟨_, rfl⟩
  obtain ⟨S, hS⟩ : ∃ S : ByteArray, (⟨P.toArray⟩ : ByteArray) = S := ⟨_, rfl⟩
  rw [hF] at GD FT
  rw [hP, hS] at PR JS
  have FF := Lib.hid hF; have PP := Lib.hid hP; have SS := Lib.hid hS
  clear hF hP hS
  go_enter Tryd.func3, Tryd.ntmps3
  go_wp2_with fail
  rw [← HW1.out]
  refine (C1.out).mono ?_
  rintro e2 w2 ⟨rfl, hb2⟩
  dsimp only
  have hp := PR.out w2 hb2
  clear p0 p1 p2 p3 p4
  obtain ⟨⟨p0, p1, p2, p3, p4⟩, -⟩ := box_of (box_below X1.out hb2)
  have HP := Lib.hid hp; have HB2 := Lib.hid hb2
  clear hp hb2
  go_wp2_with fail
  refine (HP.out).mono ?_
  rintro e3 w3 ⟨rfl, hb3⟩
  dsimp only
  have hb13 := HB2.out.chain hb3
  clear p0 p1 p2 p3 p4 hb3
  obtain ⟨P1, -⟩ := box_of (box_below X1.out hb13)
  have KEEP := KEEP'.out; have GETB := GETB'.out
  unfold Box at KEEP GETB P1
  have HB13 := Lib.hid hb13
  clear hb13
  go_wp2_with fail
  go_region_held3 (fun W => (W.cell? ⟨w.heap.size, 0, none⟩ = some (.int .i64 v.kind) ∧ W.cell? ⟨w.heap.size, 1, none⟩ = some (.int .i64 v.num) ∧ W.cell? ⟨w.heap.size, 2, none⟩ = some (.string ⟨v.text.toArray⟩) ∧ W.cell? ⟨w.heap.size, 3, none⟩ = some (.slice A v.list.length c) ∧ W.cell? ⟨w.heap.size, 4, none⟩ = some (.slice A' v.keys.length c')) ∧ Below W1.heap.size W1 W) (first | exact ⟨P1, HB13.out⟩ | exact KEEP _ _ (Below.refl _ _).drew ⟨P1, HB13.out⟩ | exact KEEP _ _ (by assumption) (by assumption)) (first | (go_at_call 12; (with_reducible refine (GD.out _ (GETB _ (by assumption))).mono ?_); rintro e wx ⟨rfl, hbx⟩) | (go_at_call 13; (with_reducible refine (FT.out _ (GETB _ (by assumption))).mono ?_); rintro e wx ⟨rfl, hbx⟩) | (go_at_call 14; (with_reducible refine (JS.out _ (GETB _ (by assumption))).mono ?_); rintro e wx ⟨rfl, hbx⟩))
  have hb4 := GETB _ (by assumption)
  have k4 := (K1.out.below hb4).more hb4.size
  have ha := AN.out wx hb4
  have HB4 := Lib.hid hb4; have K4 := Lib.hid k4; have HA := Lib.hid ha
  clear KEEP GETB P1 hb4 k4 ha
  cases F with
  | false =>
    have e1 : P = [] := PP.out.symm.trans (by unfold printV; rw [FF.out]; rfl)
    subst e1
    have e2 : S = ⟨#[]⟩ := SS.out.symm
    subst e2
    go_wp2_with fail
    refine (HA.out).mono ?_
    rintro e5 w5 ⟨rfl, hb5⟩
    dsimp only
    have HB5 := Lib.hid hb5
    clear hb5
    go_wp2_with fail
    go_ret
    exact ⟨rfl, B1.out.chain (HB4.out.chain HB5.out)⟩
  | true =>
    have e1 : P = v.show := PP.out.symm.trans (by unfold printV; rw [FF.out]; rfl)
    have hlen := HL.out FF.out
    have hpos := show_pos v
    have hSl : S.size = v.show.length := by rw [← SS.out, e1]; show (v.show.toArray).size = _; simp
    have hne : S.toList = v.show := by rw [← SS.out, e1]; simp
    have hne2 : S.toList ≠ [] := by
      intro e
      rw [hne] at e
      rw [e] at hpos
      exact absurd hpos (by decide)
    have hne3 : S.toList.isEmpty = false := by
      cases h : S.toList with
      | nil => exact absurd h hne2
      | cons a r => rfl
    have pa := PAR v.show (by omega) wx K4.out
    rw [← e1, SS.out, e1] at pa
    have hS0 : (0 : Int) ≤ (S.size : Int) := by omega
    have hS1 : S.size ≤ 1000000000 := by omega
    by_cases h4 : 4096 < v.show.length
    · have hpv : parseV v.show = (V.zero, 3) := by unfold parseV; rw [if_pos h4]
      rw [hpv] at pa
      obtain ⟨u, hu⟩ : ∃ u, V.zero = u := ⟨_, rfl⟩
      rw [hu] at pa
      have d1 : decide ((4096 : Int) < (S.size : Int)) = true := by simp; omega
      have PA := Lib.hid pa
      clear pa hne e1 hpos hSl hlen h4 hpv hu
      go_wp2_with fail
      refine (PA.out).mono ?_
      rintro e5 w5 ⟨⟨xs, rfl, hx⟩, hb5⟩
      obtain ⟨B, d, B', d', rfl⟩ := hx.form
      dsimp only
      obtain ⟨W6, hW6⟩ : ∃ W6, W6 = w5.alloc (.cells #[.int .i64 u.kind, .int .i64 u.num, .string ⟨u.text.toArray⟩, .slice B u.list.length d, .slice B' u.keys.length d'] 25) := ⟨_, rfl⟩
      have b5 := HB4.out.chain hb5
      have b6 : Below W1.heap.size W1 W6 := by rw [hW6]; exact b5.alloc b5.size _
      have a6 := AN.out W6 b6
      have HW6 := Lib.hid hW6; have B6 := Lib.hid b6; have A6 := Lib.hid a6
      clear hW6 b6 a6 hx hb5 b5
      go_wp2_with fail
      rw [← HW6.out]
      refine (A6.out).mono ?_
      rintro e7 w7 ⟨rfl, hb7⟩
      dsimp only
      have HB7 := Lib.hid hb7
      clear hb7
      go_wp2_with fail
      go_ret
      exact ⟨rfl, B1.out.chain (B6.out.chain HB7.out)⟩
    · have hpv : parseV v.show = (v, 0) := by
        unfold parseV
        rw [if_neg h4, readV_of ⟨⟨8, FF.out⟩, rfl⟩ (by omega)]
        dsimp only
        rw [if_pos FF.out]
      rw [hpv] at pa
      have d1 : decide ((4096 : Int) < (S.size : Int)) = false := by simp; omega
      have PA := Lib.hid pa
      clear pa hne e1 hpos hSl hlen h4 hpv
      go_wp2_with fail
      refine (PA.out).mono ?_
      rintro e5 w5 ⟨⟨xs, rfl, hx⟩, hb5⟩
      obtain ⟨B, d, B', d', rfl⟩ := hx.form
      dsimp only
      obtain ⟨W6, hW6⟩ : ∃ W6, W6 = w5.alloc (.cells #[.int .i64 v.kind, .int .i64 v.num, .string ⟨v.text.toArray⟩, .slice B v.list.length d, .slice B' v.keys.length d'] 25) := ⟨_, rfl⟩
      have b5 := HB4.out.chain hb5
      have b6 : Below W1.heap.size W1 W6 := by rw [hW6]; exact b5.alloc b5.size _
      have a6 := AN.out W6 b6
      have HW6 := Lib.hid hW6; have B6 := Lib.hid b6; have A6 := Lib.hid a6
      have x6 : W6.heap[w5.heap.size]? = some (.cells #[.int .i64 v.kind, .int .i64 v.num, .string ⟨v.text.toArray⟩, .slice B v.list.length d, .slice B' v.keys.length d'] 25 (0, 0)) := by rw [hW6]; exact heap_alloc_last w5 _
      have b56 : Below w5.heap.size w5 W6 := by rw [hW6]; exact (Below.refl _ _).alloc (Nat.le_refl _) _
      have u6 := (hx.below b56).more (Nat.zero_le _) b56.size
      have s1 : ∀ wq, Below W6.heap.size W6 wq → Calls Tryd.prog 16 #[.agg #[.int .i64 v.kind, .int .i64 v.num, .string ⟨v.text.toArray⟩, .slice A v.list.length c, .slice A' v.keys.length c'], .agg #[.int .i64 v.kind, .int .i64 v.num, .string ⟨v.text.toArray⟩, .slice B v.list.length d, .slice B' v.keys.length d']] wq (SaysB true wq) := fun wq hb => (sameTop_any v v (by have := DP.out; omega) wq 0 w.heap.size 0 W6.heap.size _ _ (V1.out.below ((b6.chain hb).mono HLE.out)) (Nat.le_trans HLE.out (b6.chain hb).size) (u6.below hb) hb.size).mono (fun e w' ⟨r, h1, h2, h3⟩ => (show SaysB true wq e w' from ⟨by rw [h1, h2.2 rfl], h3⟩))
      have s2 : ∀ wq, Below W6.heap.size W6 wq → Calls Tryd.prog 17 #[.agg #[.int .i64 v.kind, .int .i64 v.num, .string ⟨v.text.toArray⟩, .slice A v.list.length c, .slice A' v.keys.length c'], .agg #[.int .i64 v.kind, .int .i64 v.num, .string ⟨v.text.toArray⟩, .slice B v.list.length d, .slice B' v.keys.length d']] wq (SaysB true wq) := fun wq hb => (refSame_any v v wq 0 w.heap.size 0 W6.heap.size _ _ (V1.out.below ((b6.chain hb).mono HLE.out)) (u6.below hb) (Nat.le_trans HLE.out (b6.chain hb).size) hb.size).mono (fun e w' ⟨r, h1, h2, h3⟩ => (show SaysB true wq e w' from ⟨by rw [h1, h2.2 rfl], h3⟩))
      have X6 := Lib.hid x6; have S1 := Lib.hid s1; have S2 := Lib.hid s2
      clear hW6 b6 a6 hx hb5 b5 x6 b56 u6 s1 s2
      go_wp2_with fail
      rw [← HW6.out]
      refine (A6.out).mono ?_
      rintro e7 w7 ⟨rfl, hb7⟩
      dsimp only
      obtain ⟨⟨p0, p1, p2, p3, p4⟩, -⟩ := box_of (box_below X1.out (B6.out.chain hb7))
      obtain ⟨⟨q0, q1, q2, q3, q4⟩, -⟩ := box_of (box_below X6.out hb7)
      have HB7 := Lib.hid hb7
      clear hb7
      go_wp2_with fail
      refine (S1.out _ HB7.out).mono ?_
      rintro e8 w8 ⟨rfl, hb8⟩
      dsimp only
      clear p0 p1 p2 p3 p4 q0 q1 q2 q3 q4
      have hb68 := HB7.out.chain hb8
      obtain ⟨⟨p0, p1, p2, p3, p4⟩, -⟩ := box_of (box_below X1.out (B6.out.chain hb68))
      obtain ⟨⟨q0, q1, q2, q3, q4⟩, -⟩ := box_of (box_below X6.out hb68)
      have HB68 := Lib.hid hb68
      clear hb8 hb68
      go_wp2_with fail
      refine (S2.out _ HB68.out).mono ?_
      rintro e9 w9 ⟨rfl, hb9⟩
      dsimp only
      have HB9 := Lib.hid hb9
      clear hb9 p0 p1 p2 p3 p4 q0 q1 q2 q3 q4
      go_wp2_with fail
      go_ret
      exact ⟨rfl, B1.out.chain (B6.out.chain (HB68.out.chain HB9.out))⟩
end Go.Proofs.YtoijjcbcmjdggaaDoor
