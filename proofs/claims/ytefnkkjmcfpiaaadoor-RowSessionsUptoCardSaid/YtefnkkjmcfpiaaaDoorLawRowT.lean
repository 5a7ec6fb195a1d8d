/- Layer 13's laws RowTexts, RowSplits, RowUnlike, out of what the code's rows do. -/
import Derived.Test.YtefnkkjmcfpiaaaDoorRowLaw
import Derived.Test.YtefnkkjmcfpiaaaDoorRowRef
import Derived.Test.YtefnkkjmcfpiaaaDoorOpenRow
namespace Go.Proofs.YtefnkkjmcfpiaaaDoor
open Go.RowKit
set_option linter.unusedVariables false
set_option linter.unusedSimpArgs false

theorem textsL_ab : textsL [[97, 98], []] = [50, 58, 97, 98, 48, 58] := by
  have h2 : decL 2 = [50] := by unfold decL; rw [if_pos (by decide)]; rfl
  have h0 : decL 0 = [48] := by unfold decL; rw [if_pos (by decide)]; rfl
  rw [textsL_cons, textsL_cons, textsL_nil]
  show decL 2 ++ 58 :: ([97, 98] ++ (decL 0 ++ 58 :: ([] ++ []))) = _
  rw [h2, h0]; rfl
theorem str_is' (x y : ByteArray) (a b : List UInt8) (hx : x = ⟨a.toArray⟩) (hy : y = ⟨b.toArray⟩) : (x.toList == y.toList) = decide (a = b) := by
  have h := str_neq x y a b hx hy
  cases h1 : x.toList == y.toList <;> cases h2 : decide (a = b) <;> simp [h1, h2] at h ⊢
set_option maxRecDepth 100000 in
set_option maxHeartbeats 4000000 in
theorem answers13_any {M : Nat} {w : World} (H : CodeRow w M) (hM : 60000 ≤ M) : Calls Tryd.prog 11 #[] w fun e w' => e = .returned (.bool true) ∧ Below w.heap.size w w' := by
  have hsp := H.split w (Below.refl _ _) ⟨#[50, 58, 97, 98, 48, 58]⟩ (by decide)
  have htx := fun (W : World) (hb : Below w.heap.size w W) (R : Nat) (h : RdT W (.slice (some ⟨R, 0, none⟩) 2 2) [[97, 98], []]) => H.texts W hb (some ⟨R, 0, none⟩) 2 [[97, 98], []] (by rw [textsL_ab]; show 6 ≤ M; omega) h
  rw [textsL_ab] at htx
  have HSP := Lib.hid hsp; have HTX := Lib.hid htx
  clear hsp htx H
  go_enter Tryd.func11, Tryd.ntmps11
  go_wp2_with fail
  refine HSP.out.mono ?_
  rintro e w1 ⟨⟨l, v, hl, rfl, hrd⟩ | ⟨hno, -⟩, hb1⟩
  case inr => exact absurd textsL_ab.symm (hno _)
  obtain rfl : l = [[97, 98], []] := textsL_inj (hl.symm.trans textsL_ab.symm)
  obtain ⟨A, c, rfl⟩ := rdt_form hrd
  obtain ⟨g, o, rfl, hg, c0⟩ := hrd.at 0 (by decide)
  have c0 : w1.cell? ⟨g, o, none⟩ = some (.string ⟨#[97, 98]⟩) := c0
  have HB1 := Lib.hid hb1
  clear hrd hl hb1 HSP
  rw [show ([[97, 98], []] : List (List UInt8)).length = 2 from rfl]
  have hge : (0 : Nat) < 2 := by decide
  dsimp only
  go_wp2_with fail
  refine (HTX.out _ (HB1.out.chain ((Below.refl w1.heap.size w1).alloc (Nat.le_refl _) _)) _ (rdt_new (l := [[97, 98], []]) (C := #[.string ⟨#[97, 98]⟩, .string ⟨#[]⟩]) (t := 9) (fr := (0, 0)) (heap_alloc_last w1 _) rfl)).mono ?_
  rintro e w2 ⟨rfl, hb2⟩
  have HB2 := Lib.hid (HB1.out.trans (((Below.refl w1.heap.size w1).alloc (Nat.le_refl _) _ |>.trans (hb2.mono (by simp))).mono HB1.out.size))
  clear hb2
  dsimp only [tv]
  go_wp2_with fail
  go_ret
  exact ⟨rfl, HB2.out⟩
/-- the code's Split of texts as one -/
theorem CodeRow.back {M : Nat} {w : World} (H : CodeRow w M) (l : List (List UInt8)) (hl : (textsL l).length ≤ 1000000) : Calls Tryd.prog 13 #[tv (textsL l)] w fun e w' => (∃ v, e = .returned (.tuple #[v, .int .i64 0]) ∧ RdT w' v l) ∧ Below w.heap.size w w' := by
  refine (H.split w (Below.refl _ _) ⟨(textsL l).toArray⟩ (by show (textsL l).toArray.size ≤ _; simpa using hl)).mono ?_
  rintro e w' ⟨⟨l', v, h, rfl, hrd⟩ | ⟨hno, -⟩, hb⟩
  case inr => exact absurd (by simp) (hno l)
  obtain rfl : l = l' := textsL_inj (by simpa using h)
  exact ⟨⟨v, rfl, hrd⟩, hb⟩
set_option maxRecDepth 100000 in
set_option maxHeartbeats 4000000 in
theorem rowTexts_at {M : Nat} {w : World} (H : CodeRow w M) (hM : 60000 ≤ M) (A : Option Addr) (c : Nat) (l : List (List UInt8)) (hl : Strs13 w (.slice A l.length c) l) :
    Calls Tryd.prog 3 #[.slice A l.length c] w fun e w' => e = .returned (.bool true) ∧ Below w.heap.size w w' := by
  have hans := fun W (hb : Below w.heap.size w W) => answers13_any (H.later hb) hM
  have hfew := fun W (hb : Below w.heap.size w W) => few13_any A c l hl.2.1 hl.2.2 W (hl.1.below hb)
  have hlen := fun h : fewB l = true => few_len h
  obtain ⟨F, hF⟩ : ∃ b, fewB l = b := ⟨_, rfl⟩
  rw [hF] at hfew hlen
  have htx := fun (h : F = true) W (hb : Below w.heap.size w W) => H.texts W hb A c l (by have := hlen h; omega) (hl.1.below hb)
  have hrf := fun (h : F = true) W (hb : Below w.heap.size w W) => refTexts13_any A c l (by have := hlen h; omega) W (hl.1.below hb)
  have hbk := fun (h : F = true) W (hb : Below w.heap.size w W) => (H.later hb).back l (by have := hlen h; omega)
  have hsm := fun (h : F = true) W v (hb : Below w.heap.size w W) (hv : RdT W v l) => same13_any v (.slice A l.length c) l l (by have := hlen h; omega) (by have := hlen h; omega) W hv (hl.1.below hb)
  rw [decide_eq_true rfl] at hsm
  obtain ⟨n, hn⟩ : ∃ n, l.length = n := ⟨_, rfl⟩
  rw [hn] at hfew htx hrf hsm ⊢
  obtain ⟨X, hX⟩ : ∃ B : ByteArray, B = ⟨(textsL l).toArray⟩ := ⟨_, rfl⟩
  unfold tv at htx hrf hbk
  rw [← hX] at htx hrf hbk
  have hXX : (X.toList == X.toList) = true := by simp
  have HANS := Lib.hid hans; have HFEW := Lib.hid hfew; have HTX := Lib.hid htx; have HRF := Lib.hid hrf; have HBK := Lib.hid hbk; have HSM := Lib.hid hsm
  clear hans hfew htx hrf hbk hsm hl hlen hF hn hX H
  go_enter Tryd.func3, Tryd.ntmps3
  go_wp2_with fail
  refine (HFEW.out _ (Below.refl _ _)).mono ?_
  rintro e w1 ⟨rfl, hb1⟩
  have B1 := Lib.hid hb1; clear hb1
  dsimp only
  cases F with
  | false =>
    go_wp2_with fail
    refine (HANS.out _ B1.out).mono ?_
    rintro e w2 ⟨rfl, hb2⟩
    have B2 := Lib.hid (B1.out.chain hb2); clear hb2
    dsimp only
    go_wp2
    go_ret
    exact ⟨rfl, B2.out⟩
  | true =>
    go_wp2_with fail
    refine (HTX.out trivial _ B1.out).mono ?_
    rintro e w2 ⟨rfl, hb2⟩
    have B2 := Lib.hid (B1.out.chain hb2); clear hb2
    dsimp only
    go_wp2_with fail
    refine (HBK.out trivial _ B2.out).mono ?_
    rintro e w3 ⟨⟨v, rfl, hv⟩, hb3⟩
    have B3 := Lib.hid (B2.out.chain hb3); have V := Lib.hid hv; clear hb3 hv
    dsimp only
    go_wp2_with fail
    refine (HANS.out _ B3.out).mono ?_
    rintro e w4 ⟨rfl, hb4⟩
    have B4 := Lib.hid (B3.out.chain hb4); have V4 := Lib.hid (V.out.below hb4); clear hb4
    dsimp only
    go_wp2_with fail
    refine (HRF.out trivial _ B4.out).mono ?_
    rintro e w5 ⟨rfl, hb5⟩
    have B5 := Lib.hid (B4.out.chain hb5); have V5 := Lib.hid (V4.out.below hb5); clear hb5
    dsimp only
    go_wp2_with fail
    refine (HSM.out trivial _ _ B5.out V5.out).mono ?_
    rintro e w6 ⟨rfl, hb6⟩
    have B6 := Lib.hid (B5.out.chain hb6); clear hb6
    dsimp only
    go_wp2
    go_ret
    exact ⟨rfl, B6.out⟩
set_option maxRecDepth 100000 in
set_option maxHeartbeats 4000000 in
theorem rowSplits_at {M : Nat} {w : World} (H : CodeRow w M) (hM : 60000 ≤ M) (s : ByteArray) :
    Calls Tryd.prog 4 #[.string s] w fun e w' => e = .returned (.bool true) ∧ Below w.heap.size w w' := by
  have hans := fun W (hb : Below w.heap.size w W) => answers13_any (H.later hb) hM
  by_cases hbig : 3000 < s.size
  · have hd : decide ((3000 : Int) < s.size) = true := by simp; omega
    have HANS := Lib.hid hans
    clear hans H hbig
    go_enter Tryd.func4, Tryd.ntmps4
    go_wp2_with fail
    refine (HANS.out _ (Below.refl _ _)).mono ?_
    rintro e w1 ⟨rfl, hb1⟩
    have B1 := Lib.hid hb1; clear hb1
    dsimp only
    go_wp2
    go_ret
    exact ⟨rfl, B1.out⟩
  have hd : decide ((3000 : Int) < s.size) = false := by simp; omega
  have hsp := H.split w (Below.refl _ _) s (by omega)
  have hrs := fun W => refSplit13_any s (by omega) W
  obtain ⟨L, hL⟩ : ∃ L, s.data.toList = L := ⟨_, rfl⟩
  have hLs : L.length = s.size := by rw [← hL]; rfl
  have hsL : s = ⟨L.toArray⟩ := by rw [← hL]
  rw [hL] at hsp
  simp only [hL] at hrs
  have hss : (s.toList == s.toList) = true := by simp
  have HANS := Lib.hid hans; have HSP := Lib.hid hsp; have HRS := Lib.hid hrs; have HLS := Lib.hid hLs; have HSL := Lib.hid hsL; have HH := Lib.hid H
  have hsz : s.size ≤ 3000 := by omega
  have HSZ := Lib.hid hsz
  clear hans hsp hrs hLs hsL H hbig hL hsz
  go_enter Tryd.func4, Tryd.ntmps4
  go_wp2_with fail
  refine HSP.out.mono ?_
  rintro e w1 ⟨⟨l, v, hl, rfl, hrd⟩ | ⟨hno, A1, c1, rfl⟩, hb1⟩
  · have B1 := Lib.hid hb1; have RD := Lib.hid hrd; have HLT := Lib.hid hl
    clear hb1 hrd hl
    dsimp only
    go_wp2_with fail
    refine (HRS.out _).mono ?_
    rintro e w2 ⟨⟨l2, v2, hl2, rfl, hrd2⟩ | ⟨hno, -⟩, hb2⟩
    case inr => exact absurd HLT.out (hno l)
    obtain rfl : l = l2 := textsL_inj (HLT.out.symm.trans hl2)
    have B2 := Lib.hid (B1.out.chain hb2); have R1 := Lib.hid (RD.out.below hb2); have R2 := Lib.hid hrd2
    have hlen := textsL_len l
    have hll : l.length ≤ 3000 ∧ (textsL l).length ≤ 3000 := by
      have h1 := HLS.out; have h2 := HSZ.out
      rw [HLT.out] at h1
      omega
    have HLL := Lib.hid hll
    clear hb2 hrd2 hl2 hlen hll
    dsimp only
    go_wp2_with fail
    refine (HANS.out _ B2.out).mono ?_
    rintro e w3 ⟨rfl, hb3⟩
    have B3 := Lib.hid (B2.out.chain hb3); have R13 := Lib.hid (R1.out.below hb3); have R23 := Lib.hid (R2.out.below hb3); clear hb3
    dsimp only
    go_wp2_with fail
    have hsm := same13_any v v2 l l (by have := HLL.out; omega) (by have := HLL.out; omega) w3 R13.out R23.out
    rw [decide_eq_true rfl] at hsm
    refine hsm.mono ?_
    rintro e w4 ⟨rfl, hb4⟩
    obtain ⟨A, c, rfl⟩ := rdt_form R13.out
    have htx := HH.out.texts w4 (B3.out.chain hb4) A c l (by have := HLL.out; omega) (R13.out.below hb4)
    have hts : tv (textsL l) = .string s := by unfold tv; rw [HSL.out, HLT.out]
    rw [hts] at htx
    have B4 := Lib.hid (B3.out.chain hb4); have HTX := Lib.hid htx; clear hb4 htx hts
    dsimp only
    go_wp2_with fail
    refine HTX.out.mono ?_
    rintro e w5 ⟨rfl, hb5⟩
    have B5 := Lib.hid (B4.out.chain hb5); clear hb5
    dsimp only
    go_wp2
    go_ret
    exact ⟨rfl, B5.out⟩
  · have B1 := Lib.hid hb1; have NO := Lib.hid hno
    clear hb1 hno
    dsimp only
    go_wp2_with fail
    refine (HRS.out _).mono ?_
    rintro e w2 ⟨⟨l2, v2, hl2, -, -⟩ | ⟨-, rfl⟩, hb2⟩
    case inl => exact absurd hl2 (NO.out l2)
    have B2 := Lib.hid (B1.out.chain hb2); clear hb2
    dsimp only
    go_wp2_with fail
    refine (HANS.out _ B2.out).mono ?_
    rintro e w3 ⟨rfl, hb3⟩
    have B3 := Lib.hid (B2.out.chain hb3); clear hb3
    dsimp only
    go_wp2
    go_ret
    exact ⟨rfl, B3.out⟩
set_option maxRecDepth 100000 in
set_option maxHeartbeats 4000000 in
theorem rowUnlike_at {M : Nat} {w : World} (H : CodeRow w M) (hM : 60000 ≤ M) (A : Option Addr) (c : Nat) (l : List (List UInt8)) (A' : Option Addr) (c' : Nat) (l' : List (List UInt8)) (hl : Strs13 w (.slice A l.length c) l) (hl' : Strs13 w (.slice A' l'.length c') l') :
    Calls Tryd.prog 9 #[.slice A l.length c, .slice A' l'.length c'] w fun e w' => e = .returned (.bool true) ∧ Below w.heap.size w w' := by
  have hans := fun W (hb : Below w.heap.size w W) => answers13_any (H.later hb) hM
  have hfew := fun W (hb : Below w.heap.size w W) => few13_any A c l hl.2.1 hl.2.2 W (hl.1.below hb)
  have hfew' := fun W (hb : Below w.heap.size w W) => few13_any A' c' l' hl'.2.1 hl'.2.2 W (hl'.1.below hb)
  have hlen := fun h : fewB l = true => few_len h
  have hlen' := fun h : fewB l' = true => few_len h
  obtain ⟨F, hF⟩ : ∃ b, fewB l = b := ⟨_, rfl⟩
  obtain ⟨F', hF'⟩ : ∃ b, fewB l' = b := ⟨_, rfl⟩
  rw [hF] at hfew hlen
  rw [hF'] at hfew' hlen'
  have htx := fun (h : F = true) W (hb : Below w.heap.size w W) => H.texts W hb A c l (by have := hlen h; omega) (hl.1.below hb)
  have htx' := fun (h : F' = true) W (hb : Below w.heap.size w W) => H.texts W hb A' c' l' (by have := hlen' h; omega) (hl'.1.below hb)
  have hsm := fun (h : F = true) (h' : F' = true) W (hb : Below w.heap.size w W) => same13_any (.slice A l.length c) (.slice A' l'.length c') l l' (by have := hlen h; omega) (by have := hlen' h'; omega) W (hl.1.below hb) (hl'.1.below hb)
  obtain ⟨n, hn⟩ : ∃ n, l.length = n := ⟨_, rfl⟩
  obtain ⟨n', hn'⟩ : ∃ n, l'.length = n := ⟨_, rfl⟩
  rw [hn] at hfew htx hsm ⊢
  rw [hn'] at hfew' htx' hsm ⊢
  obtain ⟨X, hX⟩ : ∃ B : ByteArray, B = ⟨(textsL l).toArray⟩ := ⟨_, rfl⟩
  obtain ⟨X', hX'⟩ : ∃ B : ByteArray, B = ⟨(textsL l').toArray⟩ := ⟨_, rfl⟩
  have hq : (X.toList == X'.toList) = decide (l = l') := by
    rw [str_is' X X' _ _ hX hX']
    by_cases h : l = l'
    · rw [h]; simp
    · rw [decide_eq_false h, decide_eq_false fun e => h (textsL_inj e)]
  obtain ⟨R, hR⟩ : ∃ b, decide (l = l') = b := ⟨_, rfl⟩
  unfold tv at htx htx'
  rw [← hX] at htx
  rw [← hX'] at htx'
  rw [hR] at hsm hq
  have hRR : (R == R) = true := by simp
  have HANS := Lib.hid hans; have HFEW := Lib.hid hfew; have HFEW' := Lib.hid hfew'; have HTX := Lib.hid htx; have HTX' := Lib.hid htx'; have HSM := Lib.hid hsm
  clear hans hfew hfew' htx htx' hsm hl hl' hlen hlen' hF hF' hn hn' hX hX' H hR
  go_enter Tryd.func9, Tryd.ntmps9
  go_wp2_with fail
  refine (HFEW.out _ (Below.refl _ _)).mono ?_
  rintro e w1 ⟨rfl, hb1⟩
  have B1 := Lib.hid hb1; clear hb1
  dsimp only
  cases F with
  | false =>
    have B2 := B1
    go_wp2_with fail
    refine (HANS.out _ B2.out).mono ?_
    rintro e w3 ⟨rfl, hb3⟩
    have B3 := Lib.hid (B2.out.chain hb3); clear hb3
    dsimp only
    go_wp2
    go_ret
    exact ⟨rfl, B3.out⟩
  | true =>
    go_wp2_with fail
    refine (HFEW'.out _ B1.out).mono ?_
    rintro e w2 ⟨rfl, hb2⟩
    have B2 := Lib.hid (B1.out.chain hb2); clear hb2
    dsimp only
    cases F' with
    | false =>
      go_wp2_with fail
      refine (HANS.out _ B2.out).mono ?_
      rintro e w3 ⟨rfl, hb3⟩
      have B3 := Lib.hid (B2.out.chain hb3); clear hb3
      dsimp only
      go_wp2
      go_ret
      exact ⟨rfl, B3.out⟩
    | true =>
      go_wp2_with fail
      refine (HANS.out _ B2.out).mono ?_
      rintro e w3 ⟨rfl, hb3⟩
      have B3 := Lib.hid (B2.out.chain hb3); clear hb3
      dsimp only
      go_wp2_with fail
      refine (HTX.out trivial _ B3.out).mono ?_
      rintro e w4 ⟨rfl, hb4⟩
      have B4 := Lib.hid (B3.out.chain hb4); clear hb4
      dsimp only
      go_wp2_with fail
      refine (HTX'.out trivial _ B4.out).mono ?_
      rintro e w5 ⟨rfl, hb5⟩
      have B5 := Lib.hid (B4.out.chain hb5); clear hb5
      dsimp only
      go_wp2_with fail
      refine (HSM.out trivial trivial _ B5.out).mono ?_
      rintro e w6 ⟨rfl, hb6⟩
      have B6 := Lib.hid (B5.out.chain hb6); clear hb6
      dsimp only
      go_wp2
      go_ret
      exact ⟨ret_bool (by first | rfl | simp [hq]), B6.out⟩
end Go.Proofs.YtefnkkjmcfpiaaaDoor
