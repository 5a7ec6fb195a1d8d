/- Layer 13, the landed code: Split and Texts. -/
import Derived.Test.YtefnkkjmcfpiaaaDoorRowSplit
import Derived.Deep.Cut
namespace Go.Proofs.YtefnkkjmcfpiaaaDoor
open Go.RowKit
set_option linter.unusedVariables false
set_option linter.unusedSimpArgs false

def sizeOfStr : Value → Nat
  | .string b => b.size
  | _ => 0
/-- what the code's Split answers: texts of the call's own -/
def CSplitIs (B : Nat) (w : World) (s : List UInt8) (e : Ending) : Prop := (∃ l v, s = textsL l ∧ e = .returned (.tuple #[v, .int .i64 0]) ∧ TRow w B v l) ∨ ((∀ l, s ≠ textsL l) ∧ e = .returned (.tuple #[.slice none 0 0, .int .i64 2]))
set_option maxRecDepth 100000 in
set_option maxHeartbeats 4000000 in
theorem split13_any (s : ByteArray) (hs : s.size ≤ 1000000) (w : World) (hk : KitIn w.heap.size w) :
    Calls Tryd.prog 13 #[.string s] w fun e w' => CSplitIs w.heap.size w' s.data.toList e ∧ Below w.heap.size w w' := by
  obtain ⟨i0, hi, hz0, hz1, hz2⟩ := info_parts Tryd.infoStrK
  obtain ⟨L, hL⟩ : ∃ L, s.data.toList = L := ⟨_, rfl⟩
  have hLs : L.length ≤ 1000000 := by rw [← hL]; exact hs
  have hfst := fun (R : ByteArray) (pre : List (List UInt8)) (h : L = textsL pre ++ R.data.toList) W hk => first13_any R (by
    have h1 := congrArg List.length h
    rw [List.length_append] at h1
    have h2 : R.data.toList.length = R.size := rfl
    omega) W hk
  rw [hL]
  have hstart : L = textsL [] ++ s.data.toList := by rw [hL]; rfl
  have HF := Lib.hid hfst; have HK := Lib.hid hk; have HS := Lib.hid hstart; have HLS := Lib.hid hLs
  clear hfst hk hstart hLs hL hs
  go_enter Tryd.func13, Tryd.ntmps13
  go_wp2
  go_loopw [0, 4] (fun sv v W => ∃ (R : ByteArray) (pre : List (List UInt8)), sv = .string R ∧ Hid (TRow W w.heap.size v pre ∧ L = textsL pre ++ R.data.toList ∧ Below w.heap.size w W)) (fun sv _ _ => sizeOfStr sv)
  case atStart => exact ⟨s, [], rfl, Lib.hid ⟨World.ownsRow_nil _ _ _ _, HS.out, Below.refl _ _⟩⟩
  case round =>
    obtain ⟨R, pre, rfl, hT⟩ := hrel
    by_cases h0 : R.data.toList = []
    · have hR : R = ⟨#[]⟩ := by
        apply ByteArray.ext; apply Array.ext'; exact h0
      subst hR
      have hend : CSplitIs w.heap.size wr L (.returned (.tuple #[u4, .int .i64 0])) := .inl ⟨pre, u4, by rw [hT.out.2.1, h0, List.append_nil], rfl, hT.out.1⟩
      have HE := Lib.hid hend
      clear hend h0
      go_wp2
      go_ret2
      exact ⟨HE.out, hT.out.2.2⟩
    · have hx : (!R.toList.isEmpty) = true := by
        rw [ByteArray.toList_eq]
        cases hd : R.data.toList with
        | nil => exact absurd hd h0
        | cons c r => rfl
      have hf := HF.out R pre hT.out.2.1 wr (HK.out.later hT.out.2.2)
      have hno : (∀ t r, R.data.toList ≠ decL t.length ++ 58 :: (t ++ r)) → ∀ l, L ≠ textsL l := fun h l e => by
        obtain ⟨l', -, h2⟩ := textsL_pre pre l R.data.toList (hT.out.2.1.symm.trans e)
        obtain ⟨t, r, h3⟩ := textsL_front h2 h0
        exact h t r h3
      have HF1 := Lib.hid hf; have HNO := Lib.hid hno
      clear hf hno h0
      go_wp2_with fail
      refine HF1.out.mono ?_
      rintro e w1 ⟨hf, hb1⟩
      have B1 := Lib.hid (hT.out.2.2.chain hb1); have T1 := Lib.hid (own_below hT.out.1 hb1)
      clear hb1
      rcases hf with ⟨t, r, hr, rfl⟩ | ⟨hno, rfl⟩
      · obtain ⟨ST, hST⟩ : ∃ B : ByteArray, B = ⟨t.toArray⟩ := ⟨_, rfl⟩
        obtain ⟨SR, hSR⟩ : ∃ B : ByteArray, B = ⟨r.toArray⟩ := ⟨_, rfl⟩
        have hll := congrArg List.length hT.out.2.1
        have hrl := congrArg List.length hr
        rw [List.length_append] at hll
        rw [List.length_append, List.length_cons, List.length_append] at hrl
        have hpl := textsL_len pre
        have hls := HLS.out
        have hts : ST.size = t.length := by rw [hST]; show t.toArray.size = _; simp
        have hrs : SR.size = r.length := by rw [hSR]; show r.toArray.size = _; simp
        have hRz : R.data.toList.length = R.size := rfl
        have hless : SR.size < R.size := by omega
        have hpre : pre.length ≤ 1000000 := by omega
        have hcl := fun W => sclone_any ST (by omega) W
        have hnext : L = textsL (pre ++ [t]) ++ SR.data.toList := by
          have : SR.data.toList = r := by rw [hSR]
          rw [this, textsL_snoc, hT.out.2.1, hr]
          simp
        have hown := T1.out
        unfold TRow at hown
        have HCL := Lib.hid hcl; have HNX := Lib.hid hnext; have HLE := Lib.hid hless; have OWN := Lib.hid hown
        have hTV : tv t = .string ST := by rw [hST]; rfl
        have hRV : tv r = .string SR := by rw [hSR]; rfl
        rw [hTV, hRV]
        have HTV := Lib.hid hTV
        clear hcl hnext hless hown hll hrl hpl hls hts hrs hRz hr hTV hRV hST hSR
        dsimp only
        go_wp2_with fail
        refine (HCL.out _).mono ?_
        rintro e w2 ⟨rfl, hb2⟩
        have B2 := Lib.hid (B1.out.chain hb2); have OWN2 := Lib.hid (own_below OWN.out hb2)
        clear hb2
        dsimp only
        go_wp2_with (at_builtin; refine wpList_append_opt rfl (.tmp 18) (.tmp 21) 22 rfl w.heap.size 9 i0 _ 1 16 Tryd.underlying22 hi hz0 hz1 hz2 rfl (by decide) _ _ _ rfl (World.ownsRow.alloc OWN2.out _) (some ⟨_, 0, none⟩) 1 1 [.string ST] rfl rfl (.inr ⟨_, rfl, new_cells _ #[_] _⟩) (by intro u hu; simp at hu; subst hu; rfl) (by unfold maxLen; omega) (by have := B2.out.size; omega) (by have := B2.out.size; simp; omega) ?_)
        intro v8 w8 hown8 hg8 _
        have hb8 : Below w.heap.size w w8 := (B2.out.alloc B2.out.size _).grown hg8 (by have := B2.out.size; simp; omega) (fun j hj => (OWN2.out.lt j hj).1)
        go_wp2
        go_roundw
        case rel => exact ⟨SR, pre ++ [t], rfl, Lib.hid ⟨TRow.cut hown8 (by rw [List.length_append]; rfl) (by rw [tcells_app]; show _ = tcells pre ++ [tv t]; rw [HTV.out]), HNX.out, hb8⟩⟩
        case measure => exact HLE.out
      · have hend : CSplitIs w.heap.size w1 L (.returned (.tuple #[.slice none 0 0, .int .i64 2])) := .inr ⟨HNO.out hno, rfl⟩
        have HE := Lib.hid hend
        clear hend hno
        dsimp only
        go_wp2
        go_ret2
        exact ⟨HE.out, B1.out⟩
theorem textsL_step (l : List (List UInt8)) (k : Nat) (t : List UInt8) (h : l[k]? = some t) : textsL (l.take (k + 1)) = ((textsL (l.take k) ++ decL t.length) ++ [58]) ++ t := by
  have hk : k < l.length := (List.getElem?_eq_some_iff.1 h).1
  have he : l[k] = t := (List.getElem?_eq_some_iff.1 h).2
  rw [List.take_succ_eq_append_getElem hk, textsL_snoc, he]
  simp
theorem textsL_take_le (l : List (List UInt8)) (k : Nat) : (textsL (l.take k)).length ≤ (textsL l).length := by
  conv => rhs; rw [← List.take_append_drop k l, textsL_app, List.length_append]
  omega
set_option maxRecDepth 100000 in
set_option maxHeartbeats 4000000 in
theorem texts13_any (A : Option Addr) (c : Nat) (l : List (List UInt8)) (hl : (textsL l).length ≤ 100000000000000) (w : World) (h : RdT w (.slice A l.length c) l) (hk : KitIn w.heap.size w) :
    Calls Tryd.prog 12 #[.slice A l.length c] w fun e w' => e = .returned (tv (textsL l)) ∧ Below w.heap.size w w' := by
  obtain ⟨n, hn⟩ : ∃ n, l.length = n := ⟨_, rfl⟩
  have hnl : n ≤ 100000000000000 := by have := textsL_len l; omega
  have hstep := textsL_step l
  have hle := textsL_take_le l
  have hall : textsL (l.take n) = textsL l := by rw [← hn, List.take_length]
  obtain ⟨W0, hW0⟩ : ∃ W, w.alloc (.cells #[.pointer none, .slice none 0 0] 56) = W := ⟨_, rfl⟩
  obtain ⟨b, hb⟩ : ∃ b, w.heap.size = b := ⟨_, rfl⟩
  have hbld : Bld W0 b b (textsL (l.take 0)) := by rw [← hW0, ← hb]; exact Bld.new w
  have hb0 : Below b w W0 := by rw [← hW0, ← hb]; exact (Below.refl _ _).alloc (Nat.le_refl _) _
  have hrow : ∀ W, Below b w W → RdT W (.slice A n c) l := fun W hW => by rw [← hn]; exact h.below (by rw [hb]; exact hW)
  have hkit : ∀ W, Below b w W → KitIn W.heap.size W := fun W hW => hk.later (by rw [hb]; exact hW)
  have hbs : b ≤ w.heap.size := by omega
  have HN := Lib.hid hn; have HST := Lib.hid hstep; have HLE := Lib.hid hle; have HALL := Lib.hid hall; have HB := Lib.hid hb; have HW := Lib.hid hW0; have HROW := Lib.hid hrow; have HKIT := Lib.hid hkit; have HL := Lib.hid hl
  have BL := Lib.hid hbld; have B0 := Lib.hid hb0; have HBS := Lib.hid hbs
  obtain ⟨X, hX⟩ : ∃ B : ByteArray, ⟨(textsL l).toArray⟩ = B := ⟨_, rfl⟩
  have hXV : tv (textsL l) = .string X := by rw [← hX]; rfl
  have HX := Lib.hid hX
  rw [hn, hXV]
  clear hX hXV
  clear hn hstep hle hall hb hW0 hrow hkit hl hbld hb0 h hk hbs
  go_enter Tryd.func12, Tryd.ntmps12
  go_upto_region 2 with fail
  rw [HW.out, HB.out]
  go_wp2
  go_loopw [8] (fun i W => ∃ k : Nat, k ≤ n ∧ i = .int .i64 k ∧ Hid (Bld W b b (textsL (l.take k)) ∧ Below b w W)) (fun i _ => n - (intOf i).toNat)
  case atStart => exact ⟨0, Nat.zero_le _, rfl, Lib.hid ⟨BL.out, B0.out⟩⟩
  case round =>
    obtain ⟨k, hk, rfl, hT⟩ := hrel
    by_cases hlt : k < n
    · have hkr : decide ((k : Int) < n) = true := by simp; omega
      have hk0 : (0 : Int) ≤ k := by omega
      have hk1 : (k : Int) < n := by omega
      have hka : k < l.length := by rw [HN.out]; exact hlt
      obtain ⟨g, o, rfl, hg, c1⟩ := (HROW.out _ hT.out.2).at k hka
      obtain ⟨t, ht⟩ : ∃ t, l[k] = t := ⟨_, rfl⟩
      have hsome : l[k]? = some t := by rw [List.getElem?_eq_getElem hka, ht]
      rw [ht] at c1
      obtain ⟨ST, hST⟩ : ∃ B : ByteArray, B = ⟨t.toArray⟩ := ⟨_, rfl⟩
      have hts : ST.size = t.length := by rw [hST]; show t.toArray.size = _; simp
      have hTV : tv t = .string ST := by rw [hST]; rfl
      have hTD : ST.data.toList = t := by rw [hST]
      rw [hTV] at c1
      have hnx := HST.out k t hsome
      have hl1 := HLE.out (k + 1)
      have hll := HL.out
      rw [hnx] at hl1
      simp only [List.length_append, List.length_cons, List.length_nil] at hl1
      obtain ⟨P, hP⟩ : ∃ P, textsL (l.take k) = P := ⟨_, rfl⟩
      have hbp : Bld wr b b P := by rw [← hP]; exact hT.out.1
      rw [hP] at hnx hl1
      obtain ⟨SI, hSI⟩ : ∃ B : ByteArray, B = ⟨(decI (t.length : Int)).toArray⟩ := ⟨_, rfl⟩
      have hSD : SI.data.toList = decL t.length := by rw [hSI, ← decI_nat]
      have hSZ : SI.size = (decL t.length).length := by rw [← hSD]; rfl
      have hit := fun W hk => itoa_any (t.length : Int) ⟨by omega, by omega⟩ W hk
      unfold tv at hit
      rw [← hSI, ← hts] at hit
      have hB1 := fun W (h : Bld W b b P) hb => writeString_any b b P SI W h (by omega) hb
      rw [hSD] at hB1
      have hB2 := fun W (h : Bld W b b (P ++ decL t.length)) hb => writeByte_any b b (P ++ decL t.length) 58 W h (by rw [List.length_append]; omega) hb
      have hB3 := fun W (h : Bld W b b ((P ++ decL t.length) ++ [58])) hb => writeString_any b b ((P ++ decL t.length) ++ [58]) ST W h (by simp only [List.length_append, List.length_cons, List.length_nil]; omega) hb
      rw [hTD, ← hnx] at hB3
      have HIT := Lib.hid hit; have HB1 := Lib.hid hB1; have HB2 := Lib.hid hB2; have HB3 := Lib.hid hB3; have HBP := Lib.hid hbp
      clear hit hB1 hB2 hB3 hbp hnx hl1 hll hP hSD hSZ hSI hTD hTV hts hST hsome ht hg hka
      go_upto_region 5 with fail
      go_wp2_with fail
      refine (HIT.out _ (HKIT.out _ hT.out.2)).mono ?_
      rintro e w1 ⟨rfl, hb1⟩
      have Q1 := Lib.hid (hT.out.2.trans (hb1.mono (Nat.le_trans HBS.out hT.out.2.size))); have P1 := Lib.hid (HBP.out.below hb1)
      clear hb1
      dsimp only
      go_wp2_with fail
      refine (HB1.out _ P1.out (Nat.le_trans HBS.out Q1.out.size)).mono ?_
      rintro e w2 ⟨rfl, h2, hb2, -⟩
      have Q2 := Lib.hid (Q1.out.trans hb2); have P2 := Lib.hid h2
      clear hb2 h2
      dsimp only
      go_wp2_with fail
      refine (HB2.out _ P2.out (Nat.le_trans HBS.out Q2.out.size)).mono ?_
      rintro e w3 ⟨rfl, h3, hb3, -⟩
      have Q3 := Lib.hid (Q2.out.trans hb3); have P3 := Lib.hid h3
      clear hb3 h3
      dsimp only
      go_wp2_with fail
      refine (HB3.out _ P3.out (Nat.le_trans HBS.out Q3.out.size)).mono ?_
      rintro e w4 ⟨rfl, h4, hb4, -⟩
      have Q4 := Lib.hid (Q3.out.trans hb4); have P4 := Lib.hid h4
      clear hb4 h4
      dsimp only
      go_wp2
      go_roundw
      case rel => exact ⟨k + 1, by omega, by go_num, Lib.hid ⟨P4.out, Q4.out⟩⟩
      case measure => simp [intOf]; omega
    · obtain rfl : k = n := by omega
      have hkr : decide ((k : Int) < k) = false := by simp
      have hst := fun W (h : Bld W b b (textsL (l.take k))) hb => bldString_any b b (textsL (l.take k)) W h hb
      rw [HALL.out] at hst
      have P1 : Hid (Bld wr b b (textsL l)) := Lib.hid (by rw [← HALL.out]; exact hT.out.1)
      rw [HX.out] at hst
      have HS := Lib.hid hst
      clear hst hlt
      go_wp2_with fail
      refine (HS.out _ P1.out (Nat.le_trans HBS.out hT.out.2.size)).mono ?_
      rintro e w1 ⟨rfl, hb1⟩
      have Q1 := Lib.hid (hT.out.2.trans hb1)
      clear hb1
      dsimp only
      go_wp2
      go_ret
      refine ⟨rfl, ?_⟩
      have := Q1.out
      rwa [← HB.out] at this
end Go.Proofs.YtefnkkjmcfpiaaaDoor
