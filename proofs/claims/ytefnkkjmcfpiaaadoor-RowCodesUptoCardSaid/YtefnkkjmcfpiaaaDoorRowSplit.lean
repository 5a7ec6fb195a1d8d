/- Layer 13, the landed code: first, Split, Texts. -/
import Derived.Test.YtefnkkjmcfpiaaaDoorRowNum
import Derived.Test.YtefnkkjmcfpiaaaDoorCut
import Derived.Test.YtefnkkjmcfpiaaaDoorStrClone
import Derived.Test.YtefnkkjmcfpiaaaDoorBuilder
namespace Go.Proofs.YtefnkkjmcfpiaaaDoor
open Go.RowKit
set_option linter.unusedVariables false
set_option linter.unusedSimpArgs false

/-- what stands at the front of a text: a text behind its length -/
def FirstIs (l : List UInt8) (e : Ending) : Prop := (∃ t r, l = decL t.length ++ 58 :: (t ++ r) ∧ e = .returned (.tuple #[tv t, tv r, .bool true])) ∨ ((∀ t r, l ≠ decL t.length ++ 58 :: (t ++ r)) ∧ e = .returned (.tuple #[.string ⟨#[]⟩, .string ⟨#[]⟩, .bool false]))
theorem decI_nat (n : Nat) : decI (n : Int) = decL n := by
  unfold decI
  rw [if_neg (by omega)]
  rfl
/-- a front, cut at its first colon -/
theorem first_cut {l t r : List UInt8} (h : l = decL t.length ++ 58 :: (t ++ r)) : l.take (atL 58 l) = decI (t.length : Int) ∧ l.drop (atL 58 l + 1) = t ++ r ∧ atL 58 l < l.length := by
  have hn : (58 : UInt8) ∉ decL t.length := fun h => by have := decL_all _ 58 h; cases this
  have hk : atL 58 l = (decL t.length).length := by
    rw [h, atL_app 58 _ _ hn]
    simp [atL]
  rw [hk, decI_nat]
  refine ⟨by rw [h, List.take_left' rfl], ?_, by rw [h]; simp⟩
  have hd : ∀ a x : List UInt8, (a ++ 58 :: x).drop (a.length + 1) = x := fun a x => by simp
  conv => lhs; rw [h]
  exact hd _ _
theorem first_put {l : List UInt8} {n : Int} (h : l.take (atL 58 l) = decI n) (h0 : 0 ≤ n) (hk : atL 58 l < l.length) (hn : n ≤ (l.drop (atL 58 l + 1)).length) :
    l = decL ((l.drop (atL 58 l + 1)).take n.toNat).length ++ 58 :: ((l.drop (atL 58 l + 1)).take n.toNat ++ (l.drop (atL 58 l + 1)).drop n.toNat) := by
  have hl : ((l.drop (atL 58 l + 1)).take n.toNat).length = n.toNat := by rw [List.length_take]; omega
  have hd : decI n = decL n.toNat := by rw [← decI_nat]; congr 1; omega
  rw [hl, ← hd, ← h, List.take_append_drop]
  have h3 : l.drop (atL 58 l) = 58 :: l.drop (atL 58 l + 1) := by
    rw [List.drop_eq_getElem_cons hk, atL_hit 58 l hk]
  rw [← h3, List.take_append_drop]
set_option maxRecDepth 100000 in
set_option maxHeartbeats 2000000 in
theorem first13_any (s : ByteArray) (hs : s.size ≤ 1000000) (w : World) (hk : KitIn w.heap.size w) :
    Calls Tryd.prog 31 #[.string s] w fun e w' => FirstIs s.data.toList e ∧ Below w.heap.size w w' := by
  obtain ⟨L, hL⟩ : ∃ L, s.data.toList = L := ⟨_, rfl⟩
  have hLs : L.length = s.size := by rw [← hL]; rfl
  have hcut := fun W => cut1_any s 58 (by unfold maxLen; omega) W
  unfold cutSays at hcut
  rw [hL] at hcut ⊢
  obtain ⟨F, hF⟩ : ∃ B : ByteArray, B = ⟨(L.take (atL 58 L)).toArray⟩ := ⟨_, rfl⟩
  obtain ⟨R, hR⟩ : ∃ B : ByteArray, B = ⟨(L.drop (atL 58 L + 1)).toArray⟩ := ⟨_, rfl⟩
  rw [← hF, ← hR] at hcut
  have hFd : F.data.toList = L.take (atL 58 L) := by rw [hF]
  have hRd : R.data.toList = L.drop (atL 58 L + 1) := by rw [hR]
  have hRs : R.size = (L.drop (atL 58 L + 1)).length := by rw [← hRd]; rfl
  have hnum := fun W hk => number13_any F (by
    have : F.size = F.data.toList.length := rfl
    rw [this, hFd, List.length_take]; omega) W hk
  rw [hFd] at hnum
  obtain ⟨m, hm⟩ : ∃ m, (L.drop (atL 58 L + 1)).length = m := ⟨_, rfl⟩
  have hm0 : m ≤ 1000000 := by rw [← hm, List.length_drop]; omega
  rw [hm] at hRs
  have hno : (∀ t r, L ≠ decL t.length ++ 58 :: (t ++ r)) → FirstIs L (.returned (.tuple #[.string ⟨#[]⟩, .string ⟨#[]⟩, .bool false])) := fun h => .inr ⟨h, rfl⟩
  have hyes : ∀ n : Int, L.take (atL 58 L) = decI n → 0 ≤ n → n ≤ m → atL 58 L < L.length → FirstIs L (.returned (.tuple #[.string (R.extract 0 n.toNat), .string (R.extract n.toNat m), .bool true])) := fun n h1 h2 h3 h4 => by
    refine .inl ⟨_, _, first_put h1 h2 h4 (by rw [hm]; exact h3), ?_⟩
    rw [ext_pre, ← hRs, ext_suf, hRd]
    rfl
  obtain ⟨fd, hfd⟩ : ∃ b, decide (atL 58 L < L.length) = b := ⟨_, rfl⟩
  rw [hfd] at hcut
  have hsz : (R.size : Int) = m := by rw [hRs]
  have HC := Lib.hid hcut; have HN := Lib.hid hnum; have HNO := Lib.hid hno; have HY := Lib.hid hyes; have HK := Lib.hid hk; have HM := Lib.hid hm; have HFD := Lib.hid hfd; have HRS := Lib.hid hRs; have HLS := Lib.hid hLs
  clear hcut hnum hno hyes hk hm hfd hRs hLs hF hR hFd hRd hL
  go_enter Tryd.func31, Tryd.ntmps31
  go_wp2_with fail
  refine (HC.out _).mono ?_
  rintro e w1 ⟨rfl, q1, rfl⟩
  have B1 : Hid (Below w.heap.size w (w.drewN q1)) := Lib.hid (belowDrewN (Below.refl _ _) q1)
  dsimp only
  go_wp2_with fail
  refine (HN.out _ (HK.out.later B1.out)).mono ?_
  rintro e w2 ⟨hn, hb2⟩
  have B2 := Lib.hid (B1.out.chain hb2)
  clear hb2
  rcases hn with ⟨n, hn, hf, rfl⟩ | ⟨hn, rfl⟩
  case inr =>
    have hend := HNO.out fun t r h => by
      have h1 := (first_cut h).1
      have h2 := congrArg List.length h
      rw [List.length_append, List.length_cons, List.length_append, HLS.out] at h2
      exact hn (t.length : Int) ⟨by omega, by omega⟩ h1
    have HE := Lib.hid hend
    clear hend hn
    dsimp only
    cases fd with
    | false =>
      go_wp2
      go_ret3
      exact ⟨HE.out, B2.out⟩
    | true =>
      go_wp2
      go_ret3
      exact ⟨HE.out, B2.out⟩
  case inl =>
    have HN64 := Lib.hid hn; have HF := Lib.hid hf
    have hbad : (fd = true → 0 ≤ n → n ≤ m → False) → FirstIs L (.returned (.tuple #[.string ⟨#[]⟩, .string ⟨#[]⟩, .bool false])) := fun h => HNO.out fun t r e => by
      obtain ⟨h1, h2, h3⟩ := first_cut e
      have h4 := decI_inj (HF.out.symm.trans h1)
      have h5 := HM.out
      rw [h2, List.length_append] at h5
      exact h (by rw [← HFD.out]; exact decide_eq_true h3) (by omega) (by omega)
    have HBAD := Lib.hid hbad
    have hgood := fun h0 h1 h2 => HY.out n HF.out h0 h1 h2
    have HG := Lib.hid hgood
    obtain ⟨hn0, hn1⟩ := hn
    clear hbad hf hgood
    dsimp only
    cases fd with
    | false =>
      have HE := Lib.hid (HBAD.out fun h => by cases h)
      go_wp2
      go_ret3
      exact ⟨HE.out, B2.out⟩
    | true =>
      by_cases h0 : n < 0
      · have g0 : decide (n < 0) = true := by simp; omega
        have HE := Lib.hid (HBAD.out fun _ h _ => by omega)
        clear h0
        go_wp2
        go_ret3
        exact ⟨HE.out, B2.out⟩
      have g0 : decide (n < 0) = false := by simp; omega
      by_cases hm1 : (m : Int) < n
      · have g1 : decide ((m : Int) < n) = true := by simp; omega
        have HE := Lib.hid (HBAD.out fun _ _ h => by omega)
        clear hm1
        go_wp2
        go_ret3
        exact ⟨HE.out, B2.out⟩
      have g1 : decide ((m : Int) < n) = false := by simp; omega
      obtain ⟨k, rfl⟩ : ∃ k : Nat, n = k := ⟨n.toNat, by omega⟩
      have hkm : k ≤ m := by omega
      have HE := Lib.hid (HG.out (by omega) (by omega) (of_decide_eq_true HFD.out))
      clear h0 hm1 hn0 hn1
      have q1 : (0 : Int) ≤ k := by omega
      have q2 : (k : Int) ≤ m := by omega
      go_wp2
      go_quiet (fail)
      go_wp2
      go_ret3
      refine ⟨?_, belowDrewN B2.out _⟩
      have := HE.out
      rw [Int.toNat_natCast] at this
      rw [← HRS.out] at this
      exact this
end Go.Proofs.YtefnkkjmcfpiaaaDoor
