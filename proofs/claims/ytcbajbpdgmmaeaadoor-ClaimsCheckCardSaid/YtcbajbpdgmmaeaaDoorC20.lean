/- Texts merged by program, in build order: LawClaimsMC, Float, ClaimsSmall, ObjGrow, JsonObject. -/
import Derived.Test.YtcbajbpdgmmaeaaDoorC19
import Derived.Lib.Bytealg
import Ieee.Arith
import GoSem.Core.Float
import Derived.Test.YtcbajbpdgmmaeaaDoorC06
import Derived.Test.YtcbajbpdgmmaeaaDoorC07
import Derived.Test.YtcbajbpdgmmaeaaDoorC09
namespace Go.Proofs.YtcbajbpdgmmaeaaDoor
open Go.RowKit
set_option linter.unusedVariables false
set_option linter.unusedSimpArgs false

theorem strList (s : ByteArray) : (⟨s.data.toList.toArray⟩ : ByteArray) = s := by simp
set_option maxRecDepth 100000 in
set_option maxHeartbeats 4000000 in
theorem claimsMake_at (MAKE : MakeSays) (CHECK : CodeCheck) (S1 S2 S3 S4 : ByteArray) (iat exp : Int) (h1 : S1.size ≤ maxLen) (h2 : S2.size ≤ maxLen) (h3 : S3.size ≤ maxLen) (h4 : S4.size ≤ maxLen) (w : World) (hk : KitIn w.heap.size w) :
    Calls Tryd.prog 3 #[.string S1, .string S2, .string S3, .string S4, .int .i64 iat, .int .i64 exp] w fun e w' => e = .returned (.bool true) ∧ Below w.heap.size w w' := by
  unfold maxLen at h1 h2 h3 h4
  have hkb := fun W (hb : Below w.heap.size w W) => (hk.below hb).more hb.size
  have hans := fun W (hb : Below w.heap.size w W) => answers8_any MAKE CHECK W (hkb W hb)
  have hm1 := fun W => moment_any iat W
  have hm2 := fun W => moment_any exp W
  by_cases hmo : moment iat ∧ moment exp
  · obtain ⟨m1, m2⟩ := hmo
    have d1 : (decide (-9007199254740992 ≤ iat) && decide (iat ≤ 9007199254740992)) = true := by simp [m1.1, m1.2]
    have d2 : (decide (-9007199254740992 ≤ exp) && decide (exp ≤ 9007199254740992)) = true := by simp [m2.1, m2.2]
    rw [d1] at hm1
    rw [d2] at hm2
    have hmk := fun W => MAKE S1.data.toList S2.data.toList S3.data.toList S4.data.toList iat exp (show S1.size ≤ _ by omega) (show S2.size ≤ _ by omega) (show S3.size ≤ _ by omega) (show S4.size ≤ _ by omega) m1 m2 W
    have hrm := fun W => refMake_any S1.data.toList S2.data.toList S3.data.toList S4.data.toList iat exp (show S1.size ≤ _ by omega) (show S2.size ≤ _ by omega) (show S3.size ≤ _ by omega) (show S4.size ≤ _ by omega) W
    simp only [strList] at hmk hrm
    obtain ⟨CV, hCV⟩ : ∃ c, claimV S1.data.toList S2.data.toList S3.data.toList S4.data.toList iat exp = c := ⟨_, rfl⟩
    obtain ⟨CL, hCL⟩ : ∃ c, (claimL S1.data.toList S2.data.toList S3.data.toList S4.data.toList iat exp).length = c := ⟨_, rfl⟩
    rw [hCV] at hmk
    rw [hCV, hCL] at hrm
    have hsame := fun (W : World) (L N L' N' : Nat) (cs ds : List Value) (hv : VIs W L N CV cs) (hu : VIs W L' N' CV ds) (hN : N ≤ W.heap.size) (hN' : N' ≤ W.heap.size) => (refSame_any CV CV W L N L' N' cs ds hv hu hN hN').mono (R' := fun e w' => e = .returned (.bool true) ∧ Below W.heap.size W w') fun e w' ⟨b, he, hb, hbel⟩ => ⟨by rw [he, hb.2 rfl], hbel⟩
    have HA := Lib.hid hans; have HM1 := Lib.hid hm1; have HM2 := Lib.hid hm2; have HMK := Lib.hid hmk; have HRM := Lib.hid hrm; have HSA := Lib.hid hsame; have HF := Lib.hid (fun W L N cs (h : VIs W L N CV cs) => h.form)
    clear hans hm1 hm2 hmk hrm hsame hkb hk d1 d2 m1 m2 h1 h2 h3 h4 hCV hCL
    go_enter Tryd.func3, Tryd.ntmps3
    go_wp2_with fail
    refine (HM1.out _).mono ?_
    rintro e _ ⟨rfl, rfl⟩
    dsimp only
    go_wp2_with fail
    refine (HM2.out _).mono ?_
    rintro e _ ⟨rfl, rfl⟩
    dsimp only
    go_wp2_with fail
    refine (HA.out _ (Below.refl _ _)).mono ?_
    rintro e w1 ⟨rfl, hb1⟩
    have B1 := Lib.hid hb1; clear hb1
    dsimp only
    go_wp2_with fail
    refine (HMK.out _).mono ?_
    rintro e w2 ⟨⟨cs, L, N, rfl, v2, hN2⟩, hb2⟩
    obtain ⟨z1, z2, z3, z4, rfl⟩ := HF.out _ _ _ _ v2
    have B2 := Lib.hid (B1.out.chain hb2); have V2 := Lib.hid v2; clear hb2 v2
    dsimp only
    go_wp2_with fail
    refine (HRM.out _).mono ?_
    rintro e w3 ⟨⟨X, x, Y, y, rfl, v3⟩, hb3⟩
    have B3 := Lib.hid (B2.out.chain hb3); have V3 := Lib.hid v3; have V2' := Lib.hid (V2.out.below (hb3.mono hN2)); have hN3 := Nat.le_trans hN2 hb3.size
    clear hb3 v3
    dsimp only
    go_wp2_with fail
    refine (HSA.out _ _ _ _ _ _ _ V2'.out V3.out hN3 (Nat.le_refl _)).mono ?_
    rintro e w4 ⟨rfl, hb4⟩
    have B4 := Lib.hid (B3.out.chain hb4); clear hb4
    dsimp only
    go_wp2
    go_ret
    exact ⟨rfl, B4.out⟩
  · have HA := Lib.hid hans
    have hor : (decide (-9007199254740992 ≤ iat) && decide (iat ≤ 9007199254740992)) = false ∨ ((decide (-9007199254740992 ≤ iat) && decide (iat ≤ 9007199254740992)) = true ∧ (decide (-9007199254740992 ≤ exp) && decide (exp ≤ 9007199254740992)) = false) := by
      by_cases h : moment iat
      · right
        refine ⟨by simp [h.1, h.2], ?_⟩
        have : ¬ moment exp := fun h' => hmo ⟨h, h'⟩
        unfold moment at this
        simp; omega
      · left
        unfold moment at h
        simp; omega
    clear hans hkb hk hmo h1 h2 h3 h4
    rcases hor with d1 | ⟨d1, d2⟩
    · rw [d1] at hm1
      have HM1 := Lib.hid hm1; clear hm1 hm2 d1
      go_enter Tryd.func3, Tryd.ntmps3
      go_wp2_with fail
      refine (HM1.out _).mono ?_
      rintro e _ ⟨rfl, rfl⟩
      dsimp only
      go_wp2_with fail
      refine (HA.out _ (Below.refl _ _)).mono ?_
      rintro e w1 ⟨rfl, hb1⟩
      have B1 := Lib.hid hb1; clear hb1
      dsimp only
      go_wp2
      go_ret
      exact ⟨rfl, B1.out⟩
    · rw [d1] at hm1
      rw [d2] at hm2
      have HM1 := Lib.hid hm1; have HM2 := Lib.hid hm2; clear hm1 hm2 d1 d2
      go_enter Tryd.func3, Tryd.ntmps3
      go_wp2_with fail
      refine (HM1.out _).mono ?_
      rintro e _ ⟨rfl, rfl⟩
      dsimp only
      go_wp2_with fail
      refine (HM2.out _).mono ?_
      rintro e _ ⟨rfl, rfl⟩
      dsimp only
      go_wp2_with fail
      refine (HA.out _ (Below.refl _ _)).mono ?_
      rintro e w1 ⟨rfl, hb1⟩
      have B1 := Lib.hid hb1; clear hb1
      dsimp only
      go_wp2
      go_ret
      exact ⟨rfl, B1.out⟩
set_option maxRecDepth 100000 in
set_option maxHeartbeats 4000000 in
theorem claimsCheck_at (MAKE : MakeSays) (CHECK : CodeCheck) (S1 S2 S3 S4 : ByteArray) (now : Int) (h1 : S1.size ≤ maxLen) (h2 : S2.size ≤ maxLen) (h3 : S3.size ≤ maxLen) (h4 : S4.size ≤ maxLen) (w : World) (hk : KitIn w.heap.size w) :
    Calls Tryd.prog 4 #[.string S1, .string S2, .string S3, .string S4, .int .i64 now] w fun e w' => e = .returned (.bool true) ∧ Below w.heap.size w w' := by
  unfold maxLen at h1 h2 h3 h4
  have hkb := fun W (hb : Below w.heap.size w W) => (hk.below hb).more hb.size
  have hans := fun W (hb : Below w.heap.size w W) => answers8_any MAKE CHECK W (hkb W hb)
  have hm1 := fun W => moment_any now W
  by_cases m1 : moment now
  · have d1 : (decide (-9007199254740992 ≤ now) && decide (now ≤ 9007199254740992)) = true := by simp [m1.1, m1.2]
    rw [d1] at hm1
    have hck := CHECK S1.data.toList S2.data.toList S3.data.toList S4.data.toList now (show S1.size ≤ _ by omega) m1 w hk
    have hrc := fun W => refCheck_any S1.data.toList S2.data.toList S3.data.toList S4.data.toList now (show S1.size ≤ _ by omega) W
    simp only [strList] at hck hrc
    unfold CheckSays at hck hrc
    obtain ⟨X, hX⟩ : ∃ X, checkR S1.data.toList S2.data.toList S3.data.toList S4.data.toList now = X := ⟨_, rfl⟩
    rw [hX] at hck hrc
    obtain ⟨t, v, E⟩ := X
    simp only at hck hrc
    have hsame := fun (W : World) (L N L' N' : Nat) (cs ds : List Value) (hv : VIs W L N v cs) (hu : VIs W L' N' v ds) (hN : N ≤ W.heap.size) (hN' : N' ≤ W.heap.size) => (refSame_any v v W L N L' N' cs ds hv hu hN hN').mono (R' := fun e w' => e = .returned (.bool true) ∧ Below W.heap.size W w') fun e w' ⟨b, he, hb, hbel⟩ => ⟨by rw [he, hb.2 rfl], hbel⟩
    obtain ⟨T, hT⟩ : ∃ D : ByteArray, (⟨t.toArray⟩ : ByteArray) = D := ⟨_, rfl⟩
    rw [hT] at hck hrc
    have HA := Lib.hid hans; have HM1 := Lib.hid hm1; have HCK := Lib.hid hck; have HRC := Lib.hid hrc; have HSA := Lib.hid hsame; have HF := Lib.hid (fun W L N cs (h : VIs W L N v cs) => h.form)
    clear hans hm1 hck hrc hsame hkb hk d1 m1 h1 h2 h3 h4 hX hT
    go_enter Tryd.func4, Tryd.ntmps4
    go_wp2_with fail
    refine (HM1.out _).mono ?_
    rintro e _ ⟨rfl, rfl⟩
    dsimp only
    go_wp2_with fail
    refine HCK.out.mono ?_
    rintro e w1 ⟨⟨cs, L, N, rfl, v1, hN1⟩, hb1⟩
    obtain ⟨z1, z2, z3, z4, rfl⟩ := HF.out _ _ _ _ v1
    obtain ⟨vk, hvk⟩ : ∃ z, v.kind = z := ⟨_, rfl⟩
    obtain ⟨vn, hvn⟩ : ∃ z, v.num = z := ⟨_, rfl⟩
    obtain ⟨vt, hvt⟩ : ∃ z : ByteArray, (⟨v.text.toArray⟩ : ByteArray) = z := ⟨_, rfl⟩
    obtain ⟨vl, hvl⟩ : ∃ z, v.list.length = z := ⟨_, rfl⟩
    obtain ⟨vs, hvs⟩ : ∃ z, v.keys.length = z := ⟨_, rfl⟩
    rw [hvk, hvn, hvt, hvl, hvs] at HF v1 ⊢
    have g2 := (Below.refl w1.heap.size w1).alloc (Nat.le_refl _) (.cells #[.int .i64 vk, .int .i64 vn, .string vt, .slice z1 vl z2, .slice z3 vs z4] 28)
    have q2 := heap_alloc_last w1 (.cells #[.int .i64 vk, .int .i64 vn, .string vt, .slice z1 vl z2, .slice z3 vs z4] 28)
    have v2 := v1.below (g2.mono hN1)
    have N2 := Nat.le_trans hN1 g2.size
    have B2 := Lib.hid (hb1.chain g2); have V2 := Lib.hid v2; have Q2 := Lib.hid q2
    clear g2 q2 v2 v1 hb1
    dsimp only
    go_wp2_with fail
    refine (HRC.out _).mono ?_
    rintro e w3 ⟨⟨ds, L3, N3, rfl, v3, hN3⟩, hb3⟩
    obtain ⟨y1, y2, y3, y4, rfl⟩ := HF.out _ _ _ _ v3
    have g4 := (Below.refl w3.heap.size w3).alloc (Nat.le_refl _) (.cells #[.int .i64 vk, .int .i64 vn, .string vt, .slice y1 vl y2, .slice y3 vs y4] 28)
    have q4 := heap_alloc_last w3 (.cells #[.int .i64 vk, .int .i64 vn, .string vt, .slice y1 vl y2, .slice y3 vs y4] 28)
    have v4 := v3.below (g4.mono hN3)
    have hb4 := hb3.chain g4
    have B4 := Lib.hid hb4; have V4 := Lib.hid v4; have Q4 := Lib.hid q4
    have N4 := Nat.le_trans hN3 g4.size
    clear g4 q4 v4 v3 hb3 hb4
    dsimp only
    go_wp2_with fail
    refine (HA.out _ (B2.out.chain B4.out)).mono ?_
    rintro e w5 ⟨rfl, hb5⟩
    obtain ⟨⟨p0, p1, p2, p3, p4⟩, -⟩ := box_of (blk_below Q2.out (B4.out.chain hb5))
    obtain ⟨⟨r0, r1, r2, r3, r4⟩, -⟩ := box_of (blk_below Q4.out hb5)
    have B5 := Lib.hid hb5; clear hb5
    dsimp only
    go_wp2_with fail
    refine (HSA.out _ _ _ _ _ _ _ (V2.out.below ((B4.out.chain B5.out).mono N2)) (V4.out.below (B5.out.mono N4)) (Nat.le_trans N2 (B4.out.chain B5.out).size) (Nat.le_trans N4 B5.out.size)).mono ?_
    rintro e w6 ⟨rfl, hb6⟩
    have B6 := Lib.hid (B5.out.chain hb6); clear hb6 p0 p1 p2 p3 p4 r0 r1 r2 r3 r4
    dsimp only
    go_wp2
    go_ret
    exact ⟨rfl, (B2.out.chain B4.out).chain B6.out⟩
  · have d1 : (decide (-9007199254740992 ≤ now) && decide (now ≤ 9007199254740992)) = false := by
      unfold moment at m1
      simp; omega
    rw [d1] at hm1
    have HM1 := Lib.hid hm1; have HA := Lib.hid hans
    clear hm1 d1 hans hkb hk m1 h1 h2 h3 h4
    go_enter Tryd.func4, Tryd.ntmps4
    go_wp2_with fail
    refine (HM1.out _).mono ?_
    rintro e _ ⟨rfl, rfl⟩
    dsimp only
    go_wp2_with fail
    refine (HA.out _ (Below.refl _ _)).mono ?_
    rintro e w1 ⟨rfl, hb1⟩
    have B1 := Lib.hid hb1; clear hb1
    dsimp only
    go_wp2
    go_ret
    exact ⟨rfl, B1.out⟩
end Go.Proofs.YtcbajbpdgmmaeaaDoor
namespace Go.Proofs.YtcbajbpdgmmaeaaDoor
open Ieee

/-- a word that stands for a whole number -/
def Rep (x : Nat) (n : Int) : Prop :=
  ∃ s m e, double.read x = .number s m e ∧ ((0 ≤ e ∧ signed s m e.toNat = n) ∨ (e < 0 ∧ ∃ k, m = k <<< (-e).toNat ∧ signed s k 0 = n))
theorem dbl_sign : double.signWeight = 9223372036854775808 := by decide
theorem dbl_binade : double.binade = 4503599627370496 := by decide
theorem dbl_inf : double.infRung = 9218868437227405312 := by decide
theorem dbl_least : double.leastPlace = -1074 := by decide
theorem read_of {neg : Bool} {E kept : Nat} (hE : E < 2046) (h1 : 4503599627370496 ≤ kept) (h2 : kept < 9007199254740992) :
    double.read (double.word neg (E * 4503599627370496 + kept)) = .number neg kept (-1074 + (E : Int)) := by
  have hr : E * 4503599627370496 + kept < 9218868437227405312 := by omega
  have hs : (double.word neg (E * 4503599627370496 + kept)) % 9223372036854775808 = E * 4503599627370496 + kept := by
    unfold Format.word
    rw [dbl_sign]
    cases neg <;> simp <;> omega
  have hn : ((double.word neg (E * 4503599627370496 + kept)) / 9223372036854775808 % 2 == 1) = neg := by
    unfold Format.word
    rw [dbl_sign]
    cases neg
    · simp; omega
    · simp; omega
  unfold Format.read
  simp only [dbl_sign, dbl_binade, dbl_inf, dbl_least]
  rw [hs, hn]
  rw [if_neg (by omega), if_pos hr]
  congr 1
  · omega
  · have : (E * 4503599627370496 + kept) / 4503599627370496 = E + 1 := by omega
    rw [this]; simp
theorem read_zero (neg : Bool) : double.read (double.word neg 0) = .number neg 0 (-1074) := by cases neg <;> decide
theorem cut_none0 (way : Toward) (neg : Bool) (n : Nat) : way.cut neg n 0 = n := by
  unfold Toward.cut
  cases way <;> cases neg <;> simp [Nat.mod_one]
theorem cut_even1 (neg : Bool) (n : Nat) (h : n % 2 = 0) : Toward.even.cut neg n 1 = n / 2 := by
  have hl : 1 ≤ n.log2 + 2 := by omega
  unfold Toward.cut
  rw [Nat.min_eq_left hl]
  have hg : 1 <<< 1 = 2 := rfl
  simp [hg, h]
theorem log2_spec {n : Nat} (h : n ≠ 0) : 2 ^ n.log2 ≤ n ∧ n < 2 ^ (n.log2 + 1) := ⟨Nat.log2_self_le h, Nat.lt_log2_self⟩
/-- a whole number's word stands for it -/
theorem rep_nearest (neg : Bool) (m : Nat) (h : m ≤ 9007199254740992) : Rep (double.nearest neg m 0) (signed neg m 0) := by
  unfold Format.nearest
  by_cases h0 : m = 0
  · rw [if_pos h0, h0]
    exact ⟨neg, 0, -1074, read_zero neg, .inr ⟨by decide, 0, by simp, rfl⟩⟩
  · rw [if_neg h0]
    obtain ⟨l1, l2⟩ := log2_spec h0
    obtain ⟨L, hL⟩ : ∃ L, m.log2 = L := ⟨_, rfl⟩
    rw [hL] at l1 l2
    have hL53 : L ≤ 53 := by
      refine Nat.le_of_not_lt fun h54 => ?_
      have := Nat.pow_le_pow_right (n := 2) (by decide) h54
      have e : (2 : Nat) ^ 54 = 18014398509481984 := by decide
      omega
    simp only [hL, dbl_least, dbl_inf, dbl_binade]
    have hlast : max ((0 : Int) + (L : Int) - (double.fractionBits : Int)) (-1074) = (L : Int) - 52 := by
      show max ((0 : Int) + (L : Int) - 52) (-1074) = _
      omega
    rw [hlast]
    by_cases hl : L ≤ 52
    · have e1 : ((0 : Int) - ((L : Int) - 52)).toNat = 52 - L := by omega
      have e2 : ((L : Int) - 52 - 0).toNat = 0 := by omega
      have e3 : ((L : Int) - 52 - -1074).toNat = L + 1022 := by omega
      rw [e1, e2, e3, cut_none0]
      have hk : m <<< (52 - L) = m * 2 ^ (52 - L) := Nat.shiftLeft_eq _ _
      have hp : 2 ^ L * 2 ^ (52 - L) = 4503599627370496 := by
        rw [← Nat.pow_add, show L + (52 - L) = 52 by omega]
      have hp2 : 2 ^ (L + 1) * 2 ^ (52 - L) = 9007199254740992 := by
        rw [← Nat.pow_add, show L + 1 + (52 - L) = 53 by omega]
      have k1 : 4503599627370496 ≤ m <<< (52 - L) := by rw [hk, ← hp]; exact Nat.mul_le_mul_right _ l1
      have k2 : m <<< (52 - L) < 9007199254740992 := by rw [hk, ← hp2]; exact Nat.mul_lt_mul_of_pos_right l2 (Nat.two_pow_pos _)
      rw [Nat.min_eq_left (by omega)]
      refine ⟨neg, m <<< (52 - L), -1074 + ((L + 1022 : Nat) : Int), read_of (by omega) k1 k2, ?_⟩
      by_cases h52 : L = 52
      · clear hp hp2 k1 k2 hk hlast e1 e2 e3 l1 l2
        have et : (-1074 + ((L + 1022 : Nat) : Int)).toNat = 0 := by omega
        have es : 52 - L = 0 := by omega
        refine .inl ⟨by omega, ?_⟩
        rw [et, es, Nat.shiftLeft_zero]
      · have et : (-(-1074 + ((L + 1022 : Nat) : Int))).toNat = 52 - L := by omega
        exact .inr ⟨by omega, m, by rw [et], rfl⟩
    · obtain rfl : L = 53 := by omega
      have e53 : (2 : Nat) ^ 53 = 9007199254740992 := by decide
      obtain rfl : m = 9007199254740992 := by omega
      have e1 : ((0 : Int) - (((53 : Nat) : Int) - 52)).toNat = 0 := by decide
      have e2 : (((53 : Nat) : Int) - 52 - 0).toNat = 1 := by decide
      have e3 : (((53 : Nat) : Int) - 52 - -1074).toNat = 1075 := by decide
      rw [e1, e2, e3, Nat.shiftLeft_zero, cut_even1 neg _ (by decide), Nat.min_eq_left (by decide)]
      refine ⟨neg, 4503599627370496, -1074 + ((1075 : Nat) : Int), read_of (by decide) (by decide) (by decide), .inl ⟨by decide, ?_⟩⟩
      cases neg <;> decide
theorem signed_nat (neg : Bool) (m : Nat) : signed neg m 0 = if neg then -(m : Int) else m := by unfold signed; rw [Nat.shiftLeft_zero]
theorem rep_int (n : Int) (h1 : -9007199254740992 ≤ n) (h2 : n ≤ 9007199254740992) : Rep (FloatKind.f64.nearest n) n := by
  have h := rep_nearest (decide (n < 0)) n.natAbs (by omega)
  have e : signed (decide (n < 0)) n.natAbs 0 = n := by
    rw [signed_nat]
    by_cases h0 : n < 0
    · rw [if_pos (by simpa using h0)]; omega
    · rw [if_neg (by simpa using h0)]; omega
  rw [e] at h
  exact h
theorem signed_shift (s : Bool) (m k : Nat) : signed s m k = signed s m 0 * (2 ^ k : Nat) := by
  unfold signed
  rw [Nat.shiftLeft_zero, Nat.shiftLeft_eq]
  cases s
  · simp
  · simp [Int.neg_mul]
/-- what a word stands for, at a place below its own -/
theorem Rep.at {x : Nat} {n : Int} (h : Rep x n) : ∃ s m e, double.read x = .number s m e ∧ ∀ base : Int, base ≤ e → base ≤ 0 → signed s m (e - base).toNat = n * (2 ^ (-base).toNat : Nat) := by
  obtain ⟨s, m, e, hr, h⟩ := h
  refine ⟨s, m, e, hr, fun base hb h0 => ?_⟩
  rw [signed_shift]
  rcases h with ⟨he, hn⟩ | ⟨he, k, rfl, hn⟩
  · rw [← hn, signed_shift s m e.toNat, Int.mul_assoc, ← Int.natCast_mul, ← Nat.pow_add]
    congr 3; omega
  · rw [← hn, ← signed_shift s k]
    have : k <<< (-e).toNat <<< (e - base).toNat = k <<< (-base).toNat := by
      rw [← Nat.shiftLeft_add]; congr 1; omega
    rw [← signed_shift]
    unfold signed
    rw [this]
/-- two words stand to each other as the numbers do -/
theorem rep_order {x y : Nat} {a b : Int} (hx : Rep x a) (hy : Rep y b) : double.order x y = some (compare a b) := by
  obtain ⟨s, m, i, hr, h⟩ := hx.at
  obtain ⟨t, n, j, hq, g⟩ := hy.at
  unfold Format.order
  rw [hr, hq]
  show some (compare (signed s m (i - min i j).toNat) (signed t n (j - min i j).toNat)) = _
  congr 1
  -- both are taken at one place that is no higher than 0
  obtain ⟨B, hB⟩ : ∃ B : Int, B = min (min i j) 0 := ⟨_, rfl⟩
  have e1 := h B (by omega) (by omega)
  have e2 := g B (by omega) (by omega)
  have f1 : (i - B).toNat = (i - min i j).toNat + (min i j - B).toNat := by omega
  have f2 : (j - B).toNat = (j - min i j).toNat + (min i j - B).toNat := by omega
  rw [f1] at e1
  rw [f2] at e2
  obtain ⟨P, hP⟩ : ∃ P : Nat, 2 ^ (min i j - B).toNat = P := ⟨_, rfl⟩
  obtain ⟨Q, hQ⟩ : ∃ Q : Nat, 2 ^ (-B).toNat = Q := ⟨_, rfl⟩
  have hP0 : 0 < P := by rw [← hP]; exact Nat.two_pow_pos _
  have hQ0 : 0 < Q := by rw [← hQ]; exact Nat.two_pow_pos _
  have g1 : ∀ (s : Bool) (m k : Nat), signed s m (k + (min i j - B).toNat) = signed s m k * (P : Int) := fun s m k => by
    rw [signed_shift s m (k + _), signed_shift s m k, Nat.pow_add, hP, Int.natCast_mul, Int.mul_assoc]
  rw [g1, hQ] at e1
  rw [g1, hQ] at e2
  generalize signed s m (i - min i j).toNat = X at *
  generalize signed t n (j - min i j).toNat = Y at *
  have hlt : X < Y ↔ a < b := by
    constructor
    · intro hxy
      have := Int.mul_lt_mul_of_pos_right hxy (show (0 : Int) < (P : Int) by omega)
      rw [e1, e2] at this
      exact Int.lt_of_mul_lt_mul_right this (by omega)
    · intro hab
      have := Int.mul_lt_mul_of_pos_right hab (show (0 : Int) < (Q : Int) by omega)
      rw [← e1, ← e2] at this
      exact Int.lt_of_mul_lt_mul_right this (by omega)
  have heq : X = Y ↔ a = b := by
    constructor
    · intro hxy
      rw [hxy, e2] at e1
      exact (Int.eq_of_mul_eq_mul_right (by omega) e1).symm
    · intro hab
      rw [hab, ← e2] at e1
      exact Int.eq_of_mul_eq_mul_right (by omega) e1
  show compareOfLessAndEq X Y = compareOfLessAndEq a b
  unfold compareOfLessAndEq
  simp only [hlt, heq]
/-- as an integer again -/
theorem rep_toInt {x : Nat} {n : Int} (h : Rep x n) : (double.read x).toInt .zero = some n := by
  obtain ⟨s, m, e, hr, h⟩ := h
  rw [hr]
  unfold Datum.toInt Datum.integral
  simp only
  rcases h with ⟨he, hn⟩ | ⟨he, k, rfl, hn⟩
  · have e1 : (-e).toNat = 0 := by omega
    rw [e1, cut_none0]
    show some (signed s (m <<< e.toNat) 0) = some n
    rw [← hn]
    unfold signed
    rw [Nat.shiftLeft_zero]
  · have e1 : e.toNat = 0 := by omega
    rw [e1, Nat.shiftLeft_zero]
    congr 1
    rw [← hn]
    have hcut : Toward.zero.cut s (k <<< (-e).toNat) (-e).toNat = k := by
      generalize (-e).toNat = d
      unfold Toward.cut
      simp only [Bool.toNat_false, Nat.add_zero]
      by_cases hk : k = 0
      · subst hk; simp
      · have h1 : k <<< d ≠ 0 := by
          rw [Nat.shiftLeft_eq]
          exact Nat.mul_ne_zero hk (Nat.ne_of_gt (Nat.two_pow_pos _))
        have h2 : d ≤ (k <<< d).log2 := by
          rw [Nat.le_log2 h1, Nat.shiftLeft_eq]
          exact Nat.le_mul_of_pos_left _ (Nat.pos_of_ne_zero hk)
        rw [Nat.min_eq_left (by omega), Nat.shiftLeft_eq, Nat.shiftLeft_eq, Nat.one_mul]
        exact Nat.mul_div_cancel _ (Nat.two_pow_pos _)
    rw [hcut]
end Go.Proofs.YtcbajbpdgmmaeaaDoor
namespace Go.Proofs.YtcbajbpdgmmaeaaDoor
open Go.RowKit
set_option linter.unusedVariables false
set_option linter.unusedSimpArgs false

set_option maxRecDepth 100000 in
theorem number_any8 (n : Int) (w : World) : Calls Tryd.prog 20 #[.int .i64 n] w fun e w' => e = .returned (.agg #[.int .i64 3, .int .i64 n, .string ⟨#[]⟩, .slice none 0 0, .slice none 0 0]) ∧ Below w.heap.size w w' := by
  go_enter Tryd.func20, Tryd.ntmps20
  go_wp2
  refine bodyPost_ret (v := .agg #[.int .i64 3, .int .i64 n, .string ⟨#[]⟩, .slice none 0 0, .slice none 0 0]) (by simp [results, Tryd.results20, go_sem]) rfl ?_
  exact ⟨rfl, (Below.refl _ _).alloc (Nat.le_refl _) _⟩
/-- a moment as a float -/
def fl (n : Int) : Nat := FloatKind.f64.nearest n
set_option maxRecDepth 100000 in
theorem moment8_any (n : Int) (hn : moment n) (w : World) : Calls Tryd.prog 47 #[.int .i64 n] w fun e w' => e = .returned (.float .f64 (fl n)) ∧ w' = w := by
  have d1 : decide (n < -9007199254740992) = false := by have := hn.1; simp; omega
  have d2 : decide (9007199254740992 < n) = false := by have := hn.2; simp; omega
  clear hn
  go_enter Tryd.func47, Tryd.ntmps47
  go_wp2
  go_ret
  exact ⟨rfl, rfl⟩
set_option maxRecDepth 100000 in
theorem stretch_any (a b : Int) (ha : moment a) (hb : moment b) (w : World) : Calls Tryd.prog 36 #[.int .i64 a, .int .i64 b] w fun e w' => e = .returned (.complex .f64 (fl a) (fl b)) ∧ w' = w := by
  have h1 := Lib.hid (fun W => moment8_any a ha W)
  have h2 := Lib.hid (fun W => moment8_any b hb W)
  clear ha hb
  go_enter Tryd.func36, Tryd.ntmps36
  go_wp2_with fail
  refine (h1.out _).mono ?_
  rintro e _ ⟨rfl, rfl⟩
  dsimp only
  go_wp2_with fail
  refine (h2.out _).mono ?_
  rintro e _ ⟨rfl, rfl⟩
  dsimp only
  go_wp2
  go_ret
  exact ⟨rfl, rfl⟩
theorem fl_order (a b : Int) (ha : moment a) (hb : moment b) : (FloatKind.f64.format.order (fl a) (fl b) == some .lt) = decide (a < b) := by
  have h := rep_order (rep_int a ha.1 ha.2) (rep_int b hb.1 hb.2)
  unfold fl
  show (Ieee.double.order _ _ == _) = _
  rw [h]
  show (some (compareOfLessAndEq a b) == some .lt) = _
  unfold compareOfLessAndEq
  by_cases h1 : a < b
  · simp [h1]
  · by_cases h2 : a = b
    · simp [h1, h2]
    · simp [h1, h2]
end Go.Proofs.YtcbajbpdgmmaeaaDoor
namespace Go.Proofs.YtcbajbpdgmmaeaaDoor
open Go.RowKit
set_option linter.unusedVariables false
set_option linter.unusedSimpArgs false

theorem own_base {w : World} {B B' size n : Nat} {e : TypeId} {v : Value} {xs : List Value} (h : w.ownsRow B e size v n xs) (hB : B' ≤ B) : w.ownsRow B' e size v n xs := by
  refine ⟨h.1, ?_⟩
  rcases h.2 with h' | ⟨g, cap, cur, hv, hb, r⟩
  · exact .inl h'
  · exact .inr ⟨g, cap, cur, hv, Nat.le_trans hB hb, r⟩
theorem ksCells_app (a b : List (List UInt8)) : ksCells (a ++ b) = ksCells a ++ ksCells b := by simp [ksCells]
theorem OSt.psize {B p L N : Nat} {w wr : World} {lv kv : Value} {l : List V} {ks : List (List UInt8)} {xs : List Value} (h : OSt B p L N w wr lv kv l ks xs) : p < wr.heap.size := (Array.getElem?_eq_some_iff.1 h.var).1
theorem OSt.later {B p L N : Nat} {w wr w1 : World} {lv kv : Value} {l : List V} {ks : List (List UInt8)} {xs : List Value} (h : OSt B p L N w wr lv kv l ks xs) (hp : B ≤ p) (hb : Below wr.heap.size wr w1) : OSt B p L N w w1 lv kv l ks xs :=
  ⟨(hb.block _ h.psize).trans h.var, own_below h.rowL hb, own_below h.rowK hb, h.far, h.elem, h.low.trans (hb.mono (by have := h.psize; omega))⟩
/-- keys more: behind the append, and the store of the row -/
theorem OSt.keysMore {B p L N : Nat} {w wr w2 : World} {lv kv kv' : Value} {l : List V} {ks : List (List UInt8)} {xs : List Value} (h : OSt B p L N w wr lv kv l ks xs) (hp : B ≤ p) (new : List (List UInt8))
    (hown : w2.ownsRow B 9 1 kv' (ks.length + new.length) (ksCells ks ++ ksCells new)) (hg : wr.grownBy w2 kv.ownBlock) :
    OSt B p L N w (w2.setCell ⟨p, 4, none⟩ kv') lv kv' l (ks ++ new) xs := by
  have hps := h.psize
  have hkp : kv.ownBlock ≠ some p := own_not h.rowK h.var (by decide)
  have hv2 := (hg.block p hps (fun e => hkp e.symm)).trans h.var
  refine ⟨?_, ?_, ?_, h.far, h.elem, ?_⟩
  · have := set_here (o := 4) hv2 kv'
    simpa using this
  · exact own_kept h.rowL fun g hgl => (set_there _ (fun e => h.far (by rw [← e]; exact hgl))).trans (hg.block g (h.rowL.lt g hgl).2 (fun e => own_apart h.rowL h.rowK (by decide) g hgl e.symm))
  · rw [ksCells_app, List.length_append]
    exact own_kept hown fun g hgk => set_there _ (fun e => own_not hown hv2 (by decide) (by rw [← e]; exact hgk))
  · exact (h.low.trans ((Below.refl B wr).grown hg (by omega) (fun k hk => (h.rowK.lt k hk).1))).setCell (p := ⟨p, 4, none⟩) hp _
/-- the variable's block, behind an append onto a row of keys -/
theorem OSt.varK {B p L N : Nat} {w wr w2 : World} {lv kv : Value} {l : List V} {ks : List (List UInt8)} {xs : List Value} (h : OSt B p L N w wr lv kv l ks xs) (hg : wr.grownBy w2 kv.ownBlock) :
    w2.heap[p]? = some (.cells #[.int .i64 6, .int .i64 0, .string ⟨#[]⟩, lv, kv] 28 (0, 0)) :=
  (hg.block p h.psize (fun e => own_not h.rowK h.var (by decide) e.symm)).trans h.var
theorem OSt.varL {B p L N : Nat} {w wr w2 : World} {lv kv : Value} {l : List V} {ks : List (List UInt8)} {xs : List Value} (h : OSt B p L N w wr lv kv l ks xs) (hg : wr.grownBy w2 lv.ownBlock) :
    w2.heap[p]? = some (.cells #[.int .i64 6, .int .i64 0, .string ⟨#[]⟩, lv, kv] 28 (0, 0)) :=
  (hg.block p h.psize (fun e => h.far e.symm)).trans h.var
/-- items more: behind the append, and the store of the row -/
theorem OSt.itemsMore {B p L N : Nat} {w wr w2 : World} {lv lv' kv : Value} {l : List V} {ks : List (List UInt8)} {xs : List Value} (h : OSt B p L N w wr lv kv l ks xs) (hp : B ≤ p) (new : List V) (ys : List Value)
    (hy : ∀ i (h : i < new.length), ∃ c0 c1 c2 c3 c4, ys[i * 5]? = some c0 ∧ ys[i * 5 + 1]? = some c1 ∧ ys[i * 5 + 2]? = some c2 ∧ ys[i * 5 + 3]? = some c3 ∧ ys[i * 5 + 4]? = some c4 ∧ VIs w L N new[i] [c0, c1, c2, c3, c4])
    (hown : w2.ownsRow B 28 5 lv' (l.length + new.length) (xs ++ ys)) (hg : wr.grownBy w2 lv.ownBlock) (hat : lv'.ownBlock = lv.ownBlock ∨ lv'.ownBlock = some wr.heap.size) :
    OSt B p L N w (w2.setCell ⟨p, 3, none⟩ lv') lv' kv (l ++ new) ks (xs ++ ys) := by
  have hps := h.psize
  have hxl := h.rowL.1
  have hf : lv'.ownBlock ≠ some p := fun e => by
    rcases hat with ha | ha
    · rw [ha] at e; exact h.far e
    · rw [ha] at e; injection e with e; omega
  have hv2 := h.varL hg
  refine ⟨?_, ?_, ?_, hf, fun i hi => ?_, ?_⟩
  · have := set_here (o := 3) hv2 lv'
    simpa using this
  · rw [List.length_append]
    exact own_kept hown fun g hgl => set_there _ (fun e => hf (by rw [← e]; exact hgl))
  · exact own_kept h.rowK fun g hgk => (set_there _ (fun e => own_not h.rowK h.var (by decide) (by rw [← e]; exact hgk))).trans (hg.block g (h.rowK.lt g hgk).2 (fun e => own_apart h.rowL h.rowK (by decide) g e.symm hgk))
  · rcases Nat.lt_or_ge i l.length with hil | hil
    · obtain ⟨d0, d1, d2, d3, d4, e0, e1, e2, e3, e4, hv⟩ := h.elem i hil
      have hgl : (l ++ new)[i] = l[i] := List.getElem_append_left hil
      rw [hgl]
      refine ⟨d0, d1, d2, d3, d4, ?_, ?_, ?_, ?_, ?_, hv⟩
      · rw [List.getElem?_append_left (by omega)]; exact e0
      · rw [List.getElem?_append_left (by omega)]; exact e1
      · rw [List.getElem?_append_left (by omega)]; exact e2
      · rw [List.getElem?_append_left (by omega)]; exact e3
      · rw [List.getElem?_append_left (by omega)]; exact e4
    · have hin : i - l.length < new.length := by rw [List.length_append] at hi; omega
      obtain ⟨d0, d1, d2, d3, d4, e0, e1, e2, e3, e4, hv⟩ := hy _ hin
      have hgl : (l ++ new)[i] = new[i - l.length] := List.getElem_append_right hil
      rw [hgl]
      have key : ∀ k, (xs ++ ys)[i * 5 + k]? = ys[(i - l.length) * 5 + k]? := fun k => by
        rw [List.getElem?_append_right (by omega)]; congr 1; omega
      exact ⟨d0, d1, d2, d3, d4, (key 0).trans e0, (key 1).trans e1, (key 2).trans e2, (key 3).trans e3, (key 4).trans e4, hv⟩
  · exact (h.low.trans ((Below.refl B wr).grown hg (by omega) (fun k hk => (h.rowL.lt k hk).1))).setCell (p := ⟨p, 3, none⟩) hp _
end Go.Proofs.YtcbajbpdgmmaeaaDoor
namespace Go.Proofs.YtcbajbpdgmmaeaaDoor
open Go.RowKit
open Go.Maps
set_option linter.unusedVariables false
set_option linter.unusedSimpArgs false

set_option maxRecDepth 100000 in
set_option maxHeartbeats 20000000 in
/-- the same, with the two rows, which are the caller's own from now on -/
theorem objectO_any (A : Option Addr) (c : Nat) (l : PL) (hl : l.length ≤ 100000) (hz : ∀ p ∈ l, p.1.length ≤ maxLen ∧ p.2.length ≤ maxLen) (w : World) (hp : Prs w w.heap.size A l) :
    Calls Tryd.prog 19 #[.slice A l.length c] w fun e w' => (∃ B b B' b' xs, e = .returned (.agg #[.int .i64 6, .int .i64 0, .string ⟨#[]⟩, .slice B (objS [] l).length b, .slice B' (objS [] l).length b']) ∧
      VIs w' w.heap.size w'.heap.size (objV (objS [] l)) [.int .i64 6, .int .i64 0, .string ⟨#[]⟩, .slice B (objS [] l).length b, .slice B' (objS [] l).length b'] ∧
      w'.ownsRow (w.heap.size + 2) 28 5 (.slice B (objS [] l).length b) (objS [] l).length xs ∧ w'.ownsRow (w.heap.size + 2) 9 1 (.slice B' (objS [] l).length b') (objS [] l).length (ksCells (objK (objS [] l))) ∧
      (∀ i (h : i < (objL (objS [] l)).length), ∃ c0 c1 c2 c3 c4, xs[i * 5]? = some c0 ∧ xs[i * 5 + 1]? = some c1 ∧ xs[i * 5 + 2]? = some c2 ∧ xs[i * 5 + 3]? = some c3 ∧ xs[i * 5 + 4]? = some c4 ∧ ∀ W, VIs W 0 0 (objL (objS [] l))[i] [c0, c1, c2, c3, c4])) ∧ Below w.heap.size w w' := by
  obtain ⟨i0, hi, hz0, hz1, hz2⟩ := info_parts Tryd.infoValR
  obtain ⟨j0, hj, hy0, hy1, hy2⟩ := info_parts Tryd.infoStrR
  have hmm := fun n => @run_makeMapHint Tryd.prog 52 9 53 .i64 n Tryd.underlying52
  obtain ⟨R, hR⟩ : ∃ R, w.heap.size = R := ⟨_, rfl⟩
  obtain ⟨W3, hW3⟩ : ∃ W3, W3 = (((w.alloc (.cells #[.int .i64 0, .int .i64 0, .string ⟨#[]⟩, .slice none 0 0, .slice none 0 0] 28)).alloc (.cells #[.int .i64 6, .int .i64 0, .string ⟨#[]⟩, .slice none 0 0, .slice none 0 0] 28)).alloc (.map #[] 0)) := ⟨_, rfl⟩
  have gst : GSt R 6 w W3 (.slice none 0 0) (.slice none 0 0) (objL []) (objK []) [] := by
    refine ⟨?_, ?_, ⟨rfl, .inl ⟨rfl, rfl⟩⟩, ⟨rfl, .inl ⟨rfl, rfl⟩⟩, fun i hi => absurd hi (Nat.not_lt_zero _), ?_, ?_⟩
    · rw [hW3, ← hR]
      exact alloc_block (fresh_at _ (by simp))
    · rw [hW3, ← hR]; exact alloc_block (alloc_block (heap_alloc_last w _))
    · rw [hW3, ← hR]; exact (((Below.refl _ _).alloc (Nat.le_refl _) _).alloc (by simp) _).alloc (by simp; omega) _
    · rw [hW3, ← hR]; simp
  have hom : W3.ownsMap Tryd.prog 9 (unitElem (H := Unit)) (R + 2) 0 (seenAt [] 0) := by
    have := World.ownsMap_made ((w.alloc (.cells #[.int .i64 0, .int .i64 0, .string ⟨#[]⟩, .slice none 0 0, .slice none 0 0] 28)).alloc (.cells #[.int .i64 6, .int .i64 0, .string ⟨#[]⟩, .slice none 0 0, .slice none 0 0] 28)) Tryd.prog 9 (unitElem (H := Unit))
    rw [← hW3] at this
    have this' : W3.ownsMap Tryd.prog 9 (unitElem (H := Unit)) (R + 1 + 1) 0 (.map []) := by simpa [hR] using this
    exact this'
  obtain ⟨n, hn⟩ : ∃ n, l.length = n := ⟨_, rfl⟩
  obtain ⟨RES, hRES⟩ : ∃ RES, objS [] l = RES := ⟨_, rfl⟩
  rw [hn] at hl ⊢
  rw [hRES]
  have HR := Lib.hid hR; have HW3 := Lib.hid hW3; have GST := Lib.hid gst; have HOM := Lib.hid hom; have HN := Lib.hid hn; have HRES := Lib.hid hRES; have HZ := Lib.hid hz; have HP := Lib.hid hp
  clear hR hW3 gst hom hn hRES hz hp
  go_enter Tryd.func19, Tryd.ntmps19
  go_wp2
  rw [← HW3.out, HR.out]
  go_loopw [15] (fun i wr => ∃ (k : Nat) (st : PL) (lv kv : Value) (xs : List Value), k ≤ n ∧ i = .int .i64 k ∧ st.length ≤ k ∧ objS st (l.drop k) = RES ∧ (∀ y ∈ objK st, y.length ≤ 9223372036854775807) ∧ GSt R 6 w wr lv kv (objL st) (objK st) xs ∧ wr.ownsMap Tryd.prog 9 (unitElem (H := Unit)) (R + 2) st.length (seenAt st st.length)) (fun i _ => n - (intOf i).toNat)
  case atStart => exact ⟨0, [], _, _, [], Nat.zero_le _, rfl, Nat.le_refl _, HRES.out, by simp [objK], GST.out, HOM.out⟩
  case round =>
    obtain ⟨k, st, lv, kv, xs, hk, rfl, hsk, hst, hky, gst, hom⟩ := hrel
    obtain ⟨LA, lc, rfl⟩ := own_form gst.rowL
    obtain ⟨KA, kc, rfl⟩ := own_form gst.rowK
    have hbw := gst.low
    have hsz := gst.size
    have nL := map_not gst.rowL hom
    have nK := map_not gst.rowK hom
    have GS := Lib.hid gst; have HOM2 := Lib.hid hom; have HKY := Lib.hid hky; have NL := Lib.hid nL; have NK := Lib.hid nK
    clear gst hky nL nK HOM GST
    have hR := HR.out
    rw [objL_len, objK_len] at *
    by_cases hlt : k < n
    · have hkl : k < l.length := by have := HN.out; omega
      rw [List.drop_eq_getElem_cons hkl] at hst
      obtain ⟨a, rfl, hab, h1, h2⟩ := (HP.out.below (hbw.mono (by omega))) k hkl
      have hzk := HZ.out l[k] (List.getElem_mem hkl)
      generalize hx : l[k] = x at *
      clear hx
      obtain ⟨xa, xb⟩ := x
      dsimp only at h1 h2 hzk
      have hkey : keyOf Tryd.prog 9 (.string ⟨xa.toArray⟩) = some (.string xa) := WideMaps.keyOf_string_mk Tryd.underlying9 hzk.1
      have hha := seen_any st xa
      have hk0 : (0 : Int) ≤ k := by omega
      have hk1 : (k : Int) < n := by omega
      cases hh : st.any (fun p => decide (p.1 = xa)) with
      | true =>
        rw [hh] at hha
        have hst2 : objS st (l.drop (k + 1)) = RES := (objS_hit (p := (xa, xb)) hh).symm.trans hst
        have HST := Lib.hid hst2; clear hst hst2 hh hbw hR
        go_wp2_with (at_lookup; refine wpList_lookup_own_unit _ rfl _ _ 52 rfl 9 53 lawStr Tryd.underlying52 (zeroUnit _) (R + 1 + 1) st.length _ rfl (hom.alloc _) _ _ rfl hkey ?_)
        have g2 := (GS.out.later ((Below.refl _ _).alloc (Nat.le_refl _) (.cells #[.string ⟨xa.toArray⟩, .string ⟨xb.toArray⟩] 44))).later ((Below.refl _ _).alloc (Nat.le_refl _) (.cells #[] 53))
        exact ⟨⟨k + 1, st, _, _, xs, by omega, by go_num, by omega, HST.out, HKY.out, g2, (hom.alloc _).alloc _⟩, by simp [intOf]; omega⟩
      | false =>
        rw [hh] at hha
        have hst2 : objS (st ++ [(xa, xb)]) (l.drop (k + 1)) = RES := (objS_new (p := (xa, xb)) hh).symm.trans hst
        have hml := hom.lt
        have HST := Lib.hid hst2; clear hst hst2 hh hbw hR
        go_wp2_with (first
          | (at_lookup; refine wpList_lookup_own_unit _ rfl _ _ 52 rfl 9 53 lawStr Tryd.underlying52 (zeroUnit _) (R + 1 + 1) st.length _ rfl (hom.alloc _) _ _ rfl hkey ?_)
          | (at_mapUpdate; refine wpList_mapUpdate_own _ rfl _ _ _ 52 rfl 9 53 lawStr Tryd.underlying52 (unitElem (H := Unit)) (R + 1 + 1) st.length _ rfl ((hom.alloc _).alloc _) (by unfold maxLen; omega) _ _ _ rfl rfl hkey _ [] unitElem_mk ?_; intro w1 hown1 hgrow1;
              have g1 := GSt.other ((GS.out.later ((Below.refl _ _).alloc (Nat.le_refl _) _)).later ((Below.refl _ _).alloc (Nat.le_refl _) _)) (Nat.le_refl _) hgrow1 NL.out NK.out;
              obtain ⟨⟨e0, e1, e2, e3, e4⟩, f0, f1, f2, f3, f4⟩ := box_of g1.var;
              have pb1 := grown_block hgrow1 (alloc_block (fresh_at _ rfl)) (fun e => by injection e with e; omega);
              have u0 := cell_here (o := 0) pb1; have hs1 := (Array.getElem?_eq_some_iff.1 pb1).1;
              have G3 := Lib.hid (g1.later ((Below.refl _ _).alloc (Nat.le_refl _) (.cells #[.string ⟨xa.toArray⟩] 9)));
              have PB1 := Lib.hid pb1; have OWN1 := Lib.hid hown1; clear pb1 g1)
          | (at_builtin; (refine wpList_append_own_at _ rfl (.tmp 32) (.tmp 35) 26 rfl (R + 2) 9 j0 _ 1 16 Tryd.underlying26 hj hy0 hy1 hy2 rfl (by decide) _ _ _ rfl G3.out.rowK ⟨_, 0, none⟩ 1 1 [.string ⟨xa.toArray⟩] rfl rfl (new_cells _ #[_] _) (by intro u hu; simp at hu; subst hu; rfl) (by rw [objK_len]; unfold maxLen; omega) (by rw [objK_len]; omega) (by simp; omega) ?_; intro v5 w5 hown hgrow hnil hat; obtain ⟨KA5, kc5, rfl⟩ := own_form hown; obtain ⟨⟨p0, p1, p2, p3, p4⟩, q0, q1, q2, q3, q4⟩ := box_of (G3.out.varK hgrow); have pb5 := grown_block hgrow (alloc_block PB1.out) (own_not G3.out.rowK (alloc_block PB1.out) (by decide)); have u5 := cell_here (o := 1) pb5; have G7 := Lib.hid ((G3.out.key xa hown hgrow hat).later ((Below.refl _ _).alloc (Nat.le_refl _) (.cells #[.int .i64 4, .int .i64 0, .string ⟨xb.toArray⟩, .slice none 0 0, .slice none 0 0] 28))); have HGR := Lib.hid hgrow))
          | (at_builtin; go_loud (refine wpList_append_own_at _ rfl (.tmp 39) (.tmp 43) 25 rfl (R + 2) 28 i0 _ 5 80 Tryd.underlying25 hi hz0 hz1 hz2 rfl (by decide) _ _ _ rfl G7.out.rowL ⟨_, 0, none⟩ 1 1 [.int .i64 4, .int .i64 0, .string ⟨xb.toArray⟩, .slice none 0 0, .slice none 0 0] rfl rfl (new_cellsS _ _ _ #[_, _, _, _, _] _) (by intro u hu; simp at hu; rcases hu with rfl | rfl | rfl | rfl | rfl <;> rfl) (by rw [objL_len]; unfold maxLen; omega) (by rw [objL_len]; omega) (by have := G7.out.size; omega) ?_; intro v8 w8 hown8 hgrow8 hnil8 hat8; obtain ⟨LA8, lc8, rfl⟩ := own_form hown8; obtain ⟨⟨r0, r1, r2, r3, r4⟩, s0, s1, s2, s3, s4⟩ := box_of (G7.out.varL hgrow8))))
        have hz7 := G7.out.size
        have g9 := G7.out.item (.mk 4 0 xb [] []) (L0 := R + 2) (N0 := R + 2) (plain_mk _ _ _ (by have := hzk.2; unfold maxLen at this; exact this)) (Nat.le_refl _) hz7 (fun g _ hlt => by omega) hown8 hgrow8 hat8
        rw [← objL_snoc st (xa, xb), ← objK_snoc st (xa, xb)] at g9
        have o6 : (w5.setCell ⟨R + 1, 4, none⟩ (.slice KA5 ((objK st).length + 1) kc5)).ownsMap Tryd.prog 9 (unitElem (H := Unit)) (R + 1 + 1) (st.length + 1) ((seenAt st st.length).put (.string xa) (.agg [])) :=
          ((OWN1.out.alloc _).kept HGR.out (fun e => map_not G3.out.rowK (OWN1.out.alloc _) e.symm)).setCell (by show R + 1 + 1 ≠ R + 1; omega) _
        have o9 : (w8.setCell ⟨R + 1, 3, none⟩ (.slice LA8 ((objL st).length + 1) lc8)).ownsMap Tryd.prog 9 (unitElem (H := Unit)) (R + 1 + 1) (st.length + 1) ((seenAt st st.length).put (.string xa) (.agg [])) :=
          ((o6.alloc _).kept hgrow8 (fun e => map_not G7.out.rowL (o6.alloc _) e.symm)).setCell (by show R + 1 + 1 ≠ R + 1; omega) _
        rw [← seen_snoc st (xa, xb)] at o9
        refine ⟨⟨k + 1, st ++ [(xa, xb)], _, _, _, by omega, by go_num, by simp; omega, HST.out, ?_, g9, by simpa using o9⟩, by simp [intOf]; omega⟩
        intro y hy
        rw [objK_snoc] at hy
        rcases List.mem_append.1 hy with h | h
        · exact HKY.out y h
        · simp at h; subst h; have := hzk.1; unfold maxLen at this; exact this
    · obtain rfl : k = n := by omega
      have e : RES = st := by
        rw [← hst, List.drop_of_length_le (by have := HN.out; omega)]; rfl
      obtain ⟨⟨e0, e1, e2, e3, e4⟩, f0, f1, f2, f3, f4⟩ := box_of GS.out.var
      obtain ⟨⟨p0, p1, p2, p3, p4⟩, q0, q1, q2, q3, q4⟩ := box_of GS.out.res
      subst e
      clear hst hR hbw hom HOM2
      go_wp2
      obtain ⟨wf, hwf⟩ : ∃ wf, wf = set5 wr R 0 (.int .i64 6) (.int .i64 0) (.string ⟨#[]⟩) (.slice LA RES.length lc) (.slice KA RES.length kc) := ⟨_, rfl⟩
      change bodyPost _ _ _ _ _ (set5 wr R 0 (.int .i64 6) (.int .i64 0) (.string ⟨#[]⟩) (.slice LA RES.length lc) (.slice KA RES.length kc))
      rw [← hwf]
      have hx : wf.heap[R]? = some (.cells #[.int .i64 6, .int .i64 0, .string ⟨#[]⟩, .slice LA RES.length lc, .slice KA RES.length kc] 28 (0, 0)) := by rw [hwf]; exact set5_here GS.out.res
      have hbf : Below R w wf := by rw [hwf]; exact GS.out.low.trans (set5_below (Nat.le_refl _))
      have hvf := GS.out.done (wf := wf) (by rw [objL_len]; omega) (by rw [objK_len]; omega) HKY.out (fun b hb => by rw [hwf]; exact set5_there hb) (by rw [hwf, set5_size])
      have hrl : wf.ownsRow (R + 2) 28 5 (.slice LA RES.length lc) RES.length xs := by
        have h := GS.out.rowL
        rw [objL_len] at h
        exact own_kept h fun g hg => by rw [hwf]; exact set5_there (by have := (h.lt g hg).1; omega)
      have hrk : wf.ownsRow (R + 2) 9 1 (.slice KA RES.length kc) RES.length (ksCells (objK RES)) := by
        have h := GS.out.rowK
        rw [objK_len] at h
        exact own_kept h fun g hg => by rw [hwf]; exact set5_there (by have := (h.lt g hg).1; omega)
      have hel : ∀ i (h : i < (objL RES).length), ∃ c0 c1 c2 c3 c4, xs[i * 5]? = some c0 ∧ xs[i * 5 + 1]? = some c1 ∧ xs[i * 5 + 2]? = some c2 ∧ xs[i * 5 + 3]? = some c3 ∧ xs[i * 5 + 4]? = some c4 ∧ ∀ W, VIs W 0 0 (objL RES)[i] [c0, c1, c2, c3, c4] := fun i hi => by
        obtain ⟨c0, c1, c2, c3, c4, L, N, e0, e1, e2, e3, e4, hv, -⟩ := GS.out.elem i hi
        obtain ⟨t, ht⟩ := objL_get hi
        rw [ht] at hv ⊢
        exact ⟨c0, c1, c2, c3, c4, e0, e1, e2, e3, e4, fun W => plain_any hv⟩
      obtain ⟨⟨x0, x1, x2, x3, x4⟩, -⟩ := box_of hx
      have HBF := Lib.hid hbf; have HVF := Lib.hid hvf; have HRL := Lib.hid hrl; have HRK := Lib.hid hrk; have HEL := Lib.hid hel
      clear hrl hrk hel hbf hvf hwf hx e0 e1 e2 e3 e4 f0 f1 f2 f3 f4 p0 p1 p2 p3 p4 q0 q1 q2 q3 q4
      refine bodyPost_ret (v := .agg #[.int .i64 6, .int .i64 0, .string ⟨#[]⟩, .slice LA RES.length lc, .slice KA RES.length kc]) (by simp [results, Tryd.results19, go_sem, x0, x1, x2, x3, x4]) rfl ?_
      exact ⟨⟨_, _, _, _, _, rfl, by rw [HR.out]; exact HVF.out, by rw [HR.out]; exact HRL.out, by rw [HR.out]; exact HRK.out, HEL.out⟩, by rw [HR.out]; exact HBF.out⟩
theorem object_any (A : Option Addr) (c : Nat) (l : PL) (hl : l.length ≤ 100000) (hz : ∀ p ∈ l, p.1.length ≤ maxLen ∧ p.2.length ≤ maxLen) (w : World) (hp : Prs w w.heap.size A l) :
    Calls Tryd.prog 19 #[.slice A l.length c] w fun e w' => (∃ B b B' b', e = .returned (.agg #[.int .i64 6, .int .i64 0, .string ⟨#[]⟩, .slice B (objS [] l).length b, .slice B' (objS [] l).length b']) ∧
      VIs w' w.heap.size w'.heap.size (objV (objS [] l)) [.int .i64 6, .int .i64 0, .string ⟨#[]⟩, .slice B (objS [] l).length b, .slice B' (objS [] l).length b']) ∧ Below w.heap.size w w' :=
  (objectO_any A c l hl hz w hp).mono fun e w' ⟨⟨B, b, B', b', xs, h1, h2, _⟩, h3⟩ => ⟨⟨B, b, B', b', h1, h2⟩, h3⟩
end Go.Proofs.YtcbajbpdgmmaeaaDoor
