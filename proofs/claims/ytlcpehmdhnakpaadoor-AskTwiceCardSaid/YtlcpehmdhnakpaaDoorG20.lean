/- Texts merged by program, in build order: AskIs, LaidAsk. -/
import Derived.Test.YtlcpehmdhnakpaaDoorG19
import Derived.Test.YtlcpehmdhnakpaaDoorG17
import Derived.Test.YtlcpehmdhnakpaaDoorG03
import Derived.Test.YtlcpehmdhnakpaaDoorG10
set_option linter.unusedVariables false
set_option linter.unusedSimpArgs false
namespace Go.Proofs.YtlcpehmdhnakpaaDoor
open Go.RowKit Go.Shelf
set_option linter.unusedVariables false
set_option linter.unusedSimpArgs false

/-- pairs of the call's own stay where a struct is stored below them -/
theorem prow_set6 {w : World} {B b : Nat} {v : Value} {l : PL} (h : PRow w B v l) (hb : b < B) (c0 c1 c2 c3 c4 c5 : Value) : PRow (setK6 w b c0 c1 c2 c3 c4 c5) B v l :=
  own_kept h fun g hg => by
    have hgb : B ≤ g := (h.lt g hg).1
    unfold setK6
    exact (set_there _ (by omega)).trans ((set_there _ (by omega)).trans ((set_there _ (by omega)).trans ((set_there _ (by omega)).trans ((set_there _ (by omega)).trans (set_there _ (by omega))))))
theorem prow_rd {w : World} {B n c : Nat} {A : Option Addr} {l : PL} (h : PRow w B (.slice A n c) l) : Prs w w.heap.size A l := by
  obtain ⟨A', c', e, hp⟩ := h.reads
  cases e
  exact hp
set_option maxRecDepth 100000 in
set_option maxHeartbeats 8000000 in
theorem askIn {w0 : World} (hv0 : ∃ m, w0.cell? ⟨0, 0, none⟩ = some (.int .i64 m)) : CodeAsk w0 := fun w hbw x A n c A' n' c' q h hfit h20 hq => by
  obtain ⟨m, hm0⟩ := hv0
  have hm := var0_below hm0 hbw
  obtain ⟨IS, hIS⟩ : ∃ z : ByteArray, (⟨x.gIssuer.toArray⟩ : ByteArray) = z := ⟨_, rfl⟩
  obtain ⟨KI, hKI⟩ : ∃ z : ByteArray, (⟨x.gKeyID.toArray⟩ : ByteArray) = z := ⟨_, rfl⟩
  obtain ⟨KS, hKS⟩ : ∃ z : ByteArray, (⟨x.gKeySecret.toArray⟩ : ByteArray) = z := ⟨_, rfl⟩
  obtain ⟨Q, hQ⟩ : ∃ z : ByteArray, (⟨q.toArray⟩ : ByteArray) = z := ⟨_, rfl⟩
  have hv : x.val A n c A' n' c' = .agg #[.string IS, .string KI, .string KS, .slice A n c, .slice A' n' c'] := by unfold CfgP.val tv; rw [hIS, hKI, hKS]
  have tQ : tv q = .string Q := by rw [← hQ]; rfl
  have dQ : Q.data.toList = q := by rw [← hQ]
  have hform := fun W => parseForm_any Q W
  rw [dQ] at hform
  obtain ⟨l, hl⟩ : ∃ l, parseP q = l := ⟨_, rfl⟩
  have hll := (parseP_le q).1
  have hgl := fun k => gP_le q k
  have hle : ∀ p ∈ l, p.1.length ≤ 4096 ∧ p.2.length ≤ 4096 := fun p hp => (parseP_le q).2 p (by rw [hl]; exact hp)
  rw [hl] at hform hll hgl
  obtain ⟨E, hE⟩ : ∃ E, parseE q = E := ⟨_, rfl⟩
  rw [hE] at hform
  obtain ⟨T, hT⟩ : ∃ T, askP x q = T := ⟨_, rfl⟩
  rw [hT]
  unfold askP at hT
  rw [hl, hE] at hT
  obtain ⟨b, hb⟩ : ∃ b, w.heap.size = b := ⟨_, rfl⟩
  obtain ⟨W0, hW0⟩ : ∃ W, (w.alloc (.cells #[.string IS, .string KI, .string KS, .slice A n c, .slice A' n' c'] 27)).alloc (.cells #[.string ⟨#[]⟩, .string ⟨#[]⟩, .string ⟨#[]⟩, .string ⟨#[]⟩, .string ⟨#[]⟩, .string ⟨#[]⟩] 30) = W := ⟨_, rfl⟩
  have hb0 : Below w.heap.size w W0 := by rw [← hW0]; exact ((Below.refl _ _).alloc (Nat.le_refl _) _).alloc (by simp) _
  have k0 : W0.heap[b]? = some (.cells #[.string IS, .string KI, .string KS, .slice A n c, .slice A' n' c'] 27 (0, 0)) := by rw [← hW0, ← hb]; exact alloc_block (heap_alloc_last w _)
  have k1 : W0.heap[b + 1]? = some (.cells #[.string ⟨#[]⟩, .string ⟨#[]⟩, .string ⟨#[]⟩, .string ⟨#[]⟩, .string ⟨#[]⟩, .string ⟨#[]⟩] 30 (0, 0)) := by rw [← hW0, ← hb]; exact fresh_at _ (by simp)
  have hfin : ∀ W y0 y1 y2 y3 y4 y5, Below w.heap.size w W → W.heap[b + 1]? = some (.cells #[y0, y1, y2, y3, y4, y5] 30 (0, 0)) → ∀ c0 c1 c2 c3 c4 c5, Below w.heap.size w (setK6 W (b + 1) c0 c1 c2 c3 c4 c5) ∧ (setK6 W (b + 1) c0 c1 c2 c3 c4 c5).heap[b + 1]? = some (.cells #[c0, c1, c2, c3, c4, c5] 30 (0, 0)) := fun W y0 y1 y2 y3 y4 y5 hB hk c0 c1 c2 c3 c4 c5 => ⟨setK6_below hB (by omega) _ _ _ _ _ _, setK6_here hk⟩
  have hse := fun id red S N O H W (hB : Below w.heap.size w W) => askSender_any x A n c A' n' c' id red S N O H W (h.below hB) hfit h20
  rw [hv] at hse ⊢
  rw [tQ]
  have HFORM := Lib.hid hform; have HLL := Lib.hid hll; have HGL := Lib.hid hgl; have HLE := Lib.hid hle; have HT := Lib.hid hT; have HB := Lib.hid hb; have HW0 := Lib.hid hW0; have HB0 := Lib.hid hb0; have K0 := Lib.hid k0; have K1 := Lib.hid k1; have HSE := Lib.hid hse; have HFIN := Lib.hid hfin; have HM := Lib.hid hm; have HBZ := Lib.hid (show b + 1 < W0.heap.size from (Array.getElem?_eq_some_iff.1 k1).1)
  clear hform hll hgl hle hT hb hW0 hb0 k0 k1 hse hfin hfit h20 h hv tQ dQ hQ hIS hKI hKS hl hE hm hm0 hbw hq
  go_enter Tryd.func8, Tryd.ntmps8
  go_upto_region 1 with fail
  rw [HW0.out, HB.out]
  go_wp2_with fail
  refine (HFORM.out _).mono ?_
  rintro e w1 ⟨v1, rfl, hr1, hb1⟩
  obtain ⟨A1, c1, rfl, hp1⟩ := hr1.reads
  have HR1 := Lib.hid hr1
  have B1 := Lib.hid (HB0.out.chain hb1)
  have K01 := Lib.hid (blk_below K0.out hb1)
  have K11 := Lib.hid (blk_below K1.out hb1)
  obtain ⟨np, hnp⟩ : ∃ z, l.length = z := ⟨_, rfl⟩
  have htw := twice_any A1 c1 w1.heap.size l (by have := HLL.out; omega) (fun p hp => by have := (HLE.out p hp).1; unfold maxLen; omega) w1 (Nat.le_refl _) hp1
  obtain ⟨tw, htwv⟩ : ∃ z, twiceB l = z := ⟨_, rfl⟩
  rw [htwv, hnp] at htw
  rw [hnp]
  have HNP := Lib.hid hnp; have HP1 := Lib.hid hp1; have HTW := Lib.hid htw
  have hT := HT.out
  rw [htwv] at hT
  clear hr1 hb1 htw htwv hnp hp1 HT
  dsimp only
  obtain ⟨⟨y0, y1, y2, y3, y4, y5⟩, z0, z1, z2, z3, z4, z5⟩ := cellsK6_of K11.out
  by_cases h0 : E = 0
  rotate_left
  · have t0 : (E != 0) = true := by simpa using h0
    rw [if_pos (Or.inl h0)] at hT
    subst hT
    clear h0
    go_wp2_with fail
    obtain ⟨hbf, hyf⟩ := HFIN.out w1 _ _ _ _ _ _ B1.out K11.out (.string ⟨#[]⟩) (.string ⟨#[]⟩) (.string ⟨#[]⟩) (.string ⟨#[]⟩) (.string ⟨#[]⟩) (.string ⟨#[]⟩)
    obtain ⟨wf, hwf⟩ : ∃ wf, wf = setK6 w1 (b + 1) (.string ⟨#[]⟩) (.string ⟨#[]⟩) (.string ⟨#[]⟩) (.string ⟨#[]⟩) (.string ⟨#[]⟩) (.string ⟨#[]⟩) := ⟨_, rfl⟩
    change bodyPost _ _ _ _ _ (setK6 w1 (b + 1) (.string ⟨#[]⟩) (.string ⟨#[]⟩) (.string ⟨#[]⟩) (.string ⟨#[]⟩) (.string ⟨#[]⟩) (.string ⟨#[]⟩))
    rw [← hwf] at hbf hyf ⊢
    obtain ⟨⟨a0, a1, a2, a3, a4, a5⟩, -⟩ := cellsK6_of hyf
    have HBF := Lib.hid hbf
    clear hwf hbf hyf y0 y1 y2 y3 y4 y5 z0 z1 z2 z3 z4 z5 
    refine bodyPost_ret (v := .tuple #[.agg #[.string ⟨#[]⟩, .string ⟨#[]⟩, .string ⟨#[]⟩, .string ⟨#[]⟩, .string ⟨#[]⟩, .string ⟨#[]⟩], .string ⟨#[105, 110, 118, 97, 108, 105, 100, 95, 114, 101, 113, 117, 101, 115, 116]⟩, .bool false]) (by simp [results, Tryd.results8, go_sem, a0, a1, a2, a3, a4, a5]) rfl ⟨?_, HBF.out⟩
    rfl
  have t0 : (E != 0) = false := by simp [h0]
  cases tw with
  | true =>
    rw [if_pos (Or.inr rfl)] at hT
    subst hT
    go_wp2_with fail
    refine HTW.out.mono ?_
    rintro e w2 ⟨rfl, hb2⟩
    have B2 := Lib.hid (B1.out.chain hb2)
    have K12 := Lib.hid (blk_below K11.out hb2)
    clear hb2 y0 y1 y2 y3 y4 y5 z0 z1 z2 z3 z4 z5
    obtain ⟨⟨y0, y1, y2, y3, y4, y5⟩, z0, z1, z2, z3, z4, z5⟩ := cellsK6_of K12.out
    dsimp only
    go_wp2_with fail
    obtain ⟨hbf, hyf⟩ := HFIN.out w2 _ _ _ _ _ _ B2.out K12.out (.string ⟨#[]⟩) (.string ⟨#[]⟩) (.string ⟨#[]⟩) (.string ⟨#[]⟩) (.string ⟨#[]⟩) (.string ⟨#[]⟩)
    obtain ⟨wf, hwf⟩ : ∃ wf, wf = setK6 w2 (b + 1) (.string ⟨#[]⟩) (.string ⟨#[]⟩) (.string ⟨#[]⟩) (.string ⟨#[]⟩) (.string ⟨#[]⟩) (.string ⟨#[]⟩) := ⟨_, rfl⟩
    change bodyPost _ _ _ _ _ (setK6 w2 (b + 1) (.string ⟨#[]⟩) (.string ⟨#[]⟩) (.string ⟨#[]⟩) (.string ⟨#[]⟩) (.string ⟨#[]⟩) (.string ⟨#[]⟩))
    rw [← hwf] at hbf hyf ⊢
    obtain ⟨⟨a0, a1, a2, a3, a4, a5⟩, -⟩ := cellsK6_of hyf
    have HBF := Lib.hid hbf
    clear hwf hbf hyf y0 y1 y2 y3 y4 y5 z0 z1 z2 z3 z4 z5 
    refine bodyPost_ret (v := .tuple #[.agg #[.string ⟨#[]⟩, .string ⟨#[]⟩, .string ⟨#[]⟩, .string ⟨#[]⟩, .string ⟨#[]⟩, .string ⟨#[]⟩], .string ⟨#[105, 110, 118, 97, 108, 105, 100, 95, 114, 101, 113, 117, 101, 115, 116]⟩, .bool false]) (by simp [results, Tryd.results8, go_sem, a0, a1, a2, a3, a4, a5]) rfl ⟨?_, HBF.out⟩
    rfl
  | false =>
    rw [if_neg (by simp [h0])] at hT
    go_wp2_with fail
    refine HTW.out.mono ?_
    rintro e w2 ⟨rfl, hb2⟩
    have B2 := Lib.hid (B1.out.chain hb2)
    have K02 := Lib.hid (blk_below K01.out hb2)
    have K12 := Lib.hid (blk_below K11.out hb2)
    have hr2 := own_below HR1.out hb2
    have hrd := askRead_any A1 c1 l w2 HLL.out (prow_rd hr2)
    unfold askAll AskV.val tv at hrd
    dsimp only at hrd
    rw [HNP.out] at hrd
    have HR2 := Lib.hid hr2
    clear hb2 hr2 y0 y1 y2 y3 y4 y5 z0 z1 z2 z3 z4 z5
    have HTT := Lib.hid hT
    clear hT h0
    obtain ⟨VC, hVC⟩ : ∃ z : ByteArray, (⟨(gP l kCid).toArray⟩ : ByteArray) = z := ⟨_, rfl⟩
    have zVC : VC.size ≤ 4096 := by rw [← hVC]; show (gP l kCid).toArray.size ≤ _; rw [List.size_toArray]; exact HGL.out kCid
    have dVC : VC.data.toList = gP l kCid := by rw [← hVC]
    have eVC : tv (gP l kCid) = .string VC := by rw [← hVC]; rfl
    rw [hVC] at hrd
    have DVC := Lib.hid dVC; have ZVC := Lib.hid zVC; have EVC := Lib.hid eVC; have LVC := Lib.hid (show VC.size = (gP l kCid).length by rw [← dVC]; rfl)
    clear dVC zVC eVC hVC
    obtain ⟨VR, hVR⟩ : ∃ z : ByteArray, (⟨(gP l kRed).toArray⟩ : ByteArray) = z := ⟨_, rfl⟩
    have zVR : VR.size ≤ 4096 := by rw [← hVR]; show (gP l kRed).toArray.size ≤ _; rw [List.size_toArray]; exact HGL.out kRed
    have dVR : VR.data.toList = gP l kRed := by rw [← hVR]
    have eVR : tv (gP l kRed) = .string VR := by rw [← hVR]; rfl
    rw [hVR] at hrd
    have DVR := Lib.hid dVR; have ZVR := Lib.hid zVR; have EVR := Lib.hid eVR; have LVR := Lib.hid (show VR.size = (gP l kRed).length by rw [← dVR]; rfl)
    clear dVR zVR eVR hVR
    obtain ⟨VS, hVS⟩ : ∃ z : ByteArray, (⟨(gP l kSta).toArray⟩ : ByteArray) = z := ⟨_, rfl⟩
    have zVS : VS.size ≤ 4096 := by rw [← hVS]; show (gP l kSta).toArray.size ≤ _; rw [List.size_toArray]; exact HGL.out kSta
    have dVS : VS.data.toList = gP l kSta := by rw [← hVS]
    have eVS : tv (gP l kSta) = .string VS := by rw [← hVS]; rfl
    rw [hVS] at hrd
    have DVS := Lib.hid dVS; have ZVS := Lib.hid zVS; have EVS := Lib.hid eVS; have LVS := Lib.hid (show VS.size = (gP l kSta).length by rw [← dVS]; rfl)
    clear dVS zVS eVS hVS
    obtain ⟨VN, hVN⟩ : ∃ z : ByteArray, (⟨(gP l kNon).toArray⟩ : ByteArray) = z := ⟨_, rfl⟩
    have zVN : VN.size ≤ 4096 := by rw [← hVN]; show (gP l kNon).toArray.size ≤ _; rw [List.size_toArray]; exact HGL.out kNon
    have dVN : VN.data.toList = gP l kNon := by rw [← hVN]
    have eVN : tv (gP l kNon) = .string VN := by rw [← hVN]; rfl
    rw [hVN] at hrd
    have DVN := Lib.hid dVN; have ZVN := Lib.hid zVN; have EVN := Lib.hid eVN; have LVN := Lib.hid (show VN.size = (gP l kNon).length by rw [← dVN]; rfl)
    clear dVN zVN eVN hVN
    obtain ⟨VO, hVO⟩ : ∃ z : ByteArray, (⟨(gP l kSco).toArray⟩ : ByteArray) = z := ⟨_, rfl⟩
    have zVO : VO.size ≤ 4096 := by rw [← hVO]; show (gP l kSco).toArray.size ≤ _; rw [List.size_toArray]; exact HGL.out kSco
    have dVO : VO.data.toList = gP l kSco := by rw [← hVO]
    have eVO : tv (gP l kSco) = .string VO := by rw [← hVO]; rfl
    rw [hVO] at hrd
    have DVO := Lib.hid dVO; have ZVO := Lib.hid zVO; have EVO := Lib.hid eVO; have LVO := Lib.hid (show VO.size = (gP l kSco).length by rw [← dVO]; rfl)
    clear dVO zVO eVO hVO
    obtain ⟨VH, hVH⟩ : ∃ z : ByteArray, (⟨(gP l kCha).toArray⟩ : ByteArray) = z := ⟨_, rfl⟩
    have zVH : VH.size ≤ 4096 := by rw [← hVH]; show (gP l kCha).toArray.size ≤ _; rw [List.size_toArray]; exact HGL.out kCha
    have dVH : VH.data.toList = gP l kCha := by rw [← hVH]
    have eVH : tv (gP l kCha) = .string VH := by rw [← hVH]; rfl
    rw [hVH] at hrd
    have DVH := Lib.hid dVH; have ZVH := Lib.hid zVH; have EVH := Lib.hid eVH; have LVH := Lib.hid (show VH.size = (gP l kCha).length by rw [← dVH]; rfl)
    clear dVH zVH eVH hVH
    have HRD := Lib.hid hrd
    clear hrd
    dsimp only
    go_wp2_with fail
    refine HRD.out.mono ?_
    rintro e w3 ⟨rfl, hb3⟩
    have B3 := Lib.hid (B2.out.chain hb3)
    have K03 := Lib.hid (blk_below K02.out hb3)
    have K13 := Lib.hid (blk_below K12.out hb3)
    have hr3 := own_below HR2.out hb3
    clear hb3
    obtain ⟨⟨y0, y1, y2, y3, y4, y5⟩, z0, z1, z2, z3, z4, z5⟩ := cellsK6_of K13.out
    go_upto_region 5 with fail
    obtain ⟨W4, hW4⟩ : ∃ W, setK6 w3 (b + 1) (.string VC) (.string VR) (.string VS) (.string VN) (.string VO) (.string VH) = W := ⟨_, rfl⟩
    change Code.wp _ _ _ _ (setK6 w3 (b + 1) (.string VC) (.string VR) (.string VS) (.string VN) (.string VO) (.string VH))
    obtain ⟨hb4, k14⟩ := HFIN.out w3 _ _ _ _ _ _ B3.out K13.out (.string VC) (.string VR) (.string VS) (.string VN) (.string VO) (.string VH)
    have hr4 := prow_set6 (b := b + 1) hr3 (HBZ.out) (.string VC) (.string VR) (.string VS) (.string VN) (.string VO) (.string VH)
    have k04 : (setK6 w3 (b + 1) (.string VC) (.string VR) (.string VS) (.string VN) (.string VO) (.string VH)).heap[b]? = some (.cells #[.string IS, .string KI, .string KS, .slice A n c, .slice A' n' c'] 27 (0, 0)) := by
      unfold setK6
      exact ((set_there _ (by omega)).trans ((set_there _ (by omega)).trans ((set_there _ (by omega)).trans ((set_there _ (by omega)).trans ((set_there _ (by omega)).trans (set_there _ (by omega))))))).trans K03.out
    rw [hW4] at hb4 k14 hr4 k04 ⊢
    have B4 := Lib.hid hb4; have K14 := Lib.hid k14; have HR4 := Lib.hid hr4; have K04 := Lib.hid k04
    clear hW4 hb4 k14 hr4 k04 hr3 y0 y1 y2 y3 y4 y5 z0 z1 z2 z3 z4 z5
    have hse := HSE.out (gP l kCid) (gP l kRed) VS VN VO VH W4 B4.out
    rw [EVC.out, EVR.out] at hse
    have hwi := askWish_any VC VR VS VN VO VH A1 c1 l
    rw [HNP.out, DVS.out, DVN.out, DVO.out, DVH.out] at hwi
    have hwp : wishP l (gP l kSta) (gP l kNon) (gP l kSco) (gP l kCha) = wrongP l := rfl
    rw [hwp] at hwi
    obtain ⟨SP, hSP⟩ : ∃ z, senderP x (gP l kCid) (gP l kRed) = z := ⟨_, rfl⟩
    rw [hSP] at hse
    unfold senderP at hSP
    have hTS : T = if SP = [] then (if wrongP l = [] then (askAll l, [], false) else (askFew l, wrongP l, true)) else (noAsk, SP, false) := by
      rw [← HTT.out]
      cases hf : findCl x.gClients (gP l kCid) with
      | none =>
        rw [hf] at hSP
        dsimp only at hSP
        subst hSP
        rfl
      | some r =>
        rw [hf] at hSP
        dsimp only at hSP ⊢
        by_cases hr : redirP r (gP l kRed) = false
        · rw [if_pos hr] at hSP ⊢
          subst hSP
          rfl
        · rw [if_neg hr] at hSP ⊢
          subst hSP
          rw [if_pos rfl]
    obtain ⟨SB, hSB⟩ : ∃ z : ByteArray, (⟨SP.toArray⟩ : ByteArray) = z := ⟨_, rfl⟩
    have tSB : tv SP = .string SB := by rw [← hSB]; rfl
    have nSB : SB.toList = SP := by rw [← hSB, ByteArray.toList_eq]
    rw [tSB] at hse
    have HSE2 := Lib.hid hse; have HWI := Lib.hid hwi; have HTS := Lib.hid hTS; have HSB := Lib.hid tSB
    clear hse hwi hwp hSP hTS hSB tSB HTT HSE
    obtain ⟨⟨e0, e1, e2, e3, e4⟩, -⟩ := cellsK5_of K04.out
    obtain ⟨⟨y0, y1, y2, y3, y4, y5⟩, -⟩ := cellsK6_of K14.out
    by_cases h1 : SP = []
    rotate_left
    · have hT := HTS.out
      rw [if_neg h1] at hT
      subst hT
      have t1 : ¬ SB.toList = [] := by rw [nSB]; exact h1
      have t2 : (!SB.toList.isEmpty) = true := by rw [nSB]; simpa using h1
      clear nSB h1 HTS
      go_wp2_with fail
      refine HSE2.out.mono ?_
      rintro e w5 ⟨rfl, hb5⟩
      have B5 := Lib.hid (B4.out.chain hb5)
      have K15 := Lib.hid (blk_below K14.out hb5)
      clear hb5 y0 y1 y2 y3 y4 y5 e0 e1 e2 e3 e4
      obtain ⟨⟨y0, y1, y2, y3, y4, y5⟩, z0, z1, z2, z3, z4, z5⟩ := cellsK6_of K15.out
      dsimp only
      go_wp2_with fail
      obtain ⟨hbf, hyf⟩ := HFIN.out w5 _ _ _ _ _ _ B5.out K15.out (.string ⟨#[]⟩) (.string ⟨#[]⟩) (.string ⟨#[]⟩) (.string ⟨#[]⟩) (.string ⟨#[]⟩) (.string ⟨#[]⟩)
      obtain ⟨wf, hwf⟩ : ∃ wf, wf = setK6 w5 (b + 1) (.string ⟨#[]⟩) (.string ⟨#[]⟩) (.string ⟨#[]⟩) (.string ⟨#[]⟩) (.string ⟨#[]⟩) (.string ⟨#[]⟩) := ⟨_, rfl⟩
      change bodyPost _ _ _ _ _ (setK6 w5 (b + 1) (.string ⟨#[]⟩) (.string ⟨#[]⟩) (.string ⟨#[]⟩) (.string ⟨#[]⟩) (.string ⟨#[]⟩) (.string ⟨#[]⟩))
      rw [← hwf] at hbf hyf ⊢
      obtain ⟨⟨a0, a1, a2, a3, a4, a5⟩, -⟩ := cellsK6_of hyf
      have HBF := Lib.hid hbf
      clear hwf hbf hyf y0 y1 y2 y3 y4 y5 z0 z1 z2 z3 z4 z5 t1 t2
      refine bodyPost_ret (v := .tuple #[.agg #[.string ⟨#[]⟩, .string ⟨#[]⟩, .string ⟨#[]⟩, .string ⟨#[]⟩, .string ⟨#[]⟩, .string ⟨#[]⟩], .string SB, .bool false]) (by simp [results, Tryd.results8, go_sem, a0, a1, a2, a3, a4, a5]) rfl ⟨?_, HBF.out⟩
      (unfold AskSays; dsimp only; rw [HSB.out]; rfl)
    subst h1
    have t1 : SB.toList = [] := nSB
    have t2 : (!SB.toList.isEmpty) = false := by rw [t1]; rfl
    clear nSB
    have hT := HTS.out
    rw [if_pos rfl] at hT
    clear HTS
    go_wp2_with fail
    refine HSE2.out.mono ?_
    rintro e w5 ⟨rfl, hb5⟩
    have B5 := Lib.hid (B4.out.chain hb5)
    have K15 := Lib.hid (blk_below K14.out hb5)
    have hr5 := own_below HR4.out hb5
    have hwi := HWI.out w5 m (var0_below HM.out B5.out) (by have := HLL.out; have := HNP.out; omega) (prow_rd hr5) (by have := ZVO.out; omega) (by have := ZVH.out; omega)
    obtain ⟨WR, hWR⟩ : ∃ z, wrongP l = z := ⟨_, rfl⟩
    obtain ⟨WB, hWB⟩ : ∃ z : ByteArray, (⟨WR.toArray⟩ : ByteArray) = z := ⟨_, rfl⟩
    have tWB : tv WR = .string WB := by rw [← hWB]; rfl
    have nWB : WB.toList = WR := by rw [← hWB, ByteArray.toList_eq]
    rw [hWR] at hT
    rw [hWR, tWB] at hwi
    obtain ⟨TS, hTS⟩ : ∃ z : ByteArray, (if 256 < VS.size then ⟨#[]⟩ else VS) = z := ⟨_, rfl⟩
    have tTS : tv (if 256 < (gP l kSta).length then [] else gP l kSta) = .string TS := by
      rw [← hTS, LVS.out]
      split
      · rfl
      · exact EVS.out
    have han := askAnswerable_any VC VR VS VN VO VH
    rw [hTS] at han
    have HAN := Lib.hid han; have HTS := Lib.hid tTS; have HWB := Lib.hid tWB; have HWI2 := Lib.hid hwi
    clear hb5 hr5 hwi hWR hWB tWB hTS tTS han y0 y1 y2 y3 y4 y5 e0 e1 e2 e3 e4
    obtain ⟨⟨y0, y1, y2, y3, y4, y5⟩, -⟩ := cellsK6_of K15.out
    dsimp only
    by_cases h2 : WR = []
    · rw [if_pos h2] at hT
      subst hT
      have s1 : WB.toList = [] := nWB.trans h2
      have s2 : (!WB.toList.isEmpty) = false := by rw [s1]; rfl
      clear nWB h2
      go_wp2_with fail
      refine HWI2.out.mono ?_
      rintro e w6 ⟨rfl, hb6⟩
      have B6 := Lib.hid (B5.out.chain hb6)
      have K16 := Lib.hid (blk_below K15.out hb6)
      clear hb6 y0 y1 y2 y3 y4 y5
      obtain ⟨⟨y0, y1, y2, y3, y4, y5⟩, z0, z1, z2, z3, z4, z5⟩ := cellsK6_of K16.out
      dsimp only
      go_wp2_with fail
      obtain ⟨hbf, hyf⟩ := HFIN.out w6 _ _ _ _ _ _ B6.out K16.out (.string VC) (.string VR) (.string VS) (.string VN) (.string VO) (.string VH)
      obtain ⟨wf, hwf⟩ : ∃ wf, wf = setK6 w6 (b + 1) (.string VC) (.string VR) (.string VS) (.string VN) (.string VO) (.string VH) := ⟨_, rfl⟩
      change bodyPost _ _ _ _ _ (setK6 w6 (b + 1) (.string VC) (.string VR) (.string VS) (.string VN) (.string VO) (.string VH))
      rw [← hwf] at hbf hyf ⊢
      obtain ⟨⟨a0, a1, a2, a3, a4, a5⟩, -⟩ := cellsK6_of hyf
      have HBF := Lib.hid hbf
      clear hwf hbf hyf y0 y1 y2 y3 y4 y5 z0 z1 z2 z3 z4 z5 s1 s2 t1 t2
      refine bodyPost_ret (v := .tuple #[.agg #[.string VC, .string VR, .string VS, .string VN, .string VO, .string VH], .string ⟨#[]⟩, .bool false]) (by simp [results, Tryd.results8, go_sem, a0, a1, a2, a3, a4, a5]) rfl ⟨?_, HBF.out⟩
      (unfold AskSays askAll AskV.val; dsimp only; rw [EVC.out, EVR.out, EVS.out, EVN.out, EVO.out, EVH.out]; rfl)
    · rw [if_neg h2] at hT
      subst hT
      have s1 : ¬ WB.toList = [] := by rw [nWB]; exact h2
      have s2 : (!WB.toList.isEmpty) = true := by rw [nWB]; simpa using h2
      clear nWB h2
      go_wp2_with fail
      refine HWI2.out.mono ?_
      rintro e w6 ⟨rfl, hb6⟩
      have B6 := Lib.hid (B5.out.chain hb6)
      have K16 := Lib.hid (blk_below K15.out hb6)
      clear hb6 y0 y1 y2 y3 y4 y5
      obtain ⟨⟨y0, y1, y2, y3, y4, y5⟩, -⟩ := cellsK6_of K16.out
      dsimp only
      go_wp2_with fail
      refine (HAN.out w6).mono ?_
      rintro e w7 ⟨rfl, hb7⟩
      have B7 := Lib.hid (B6.out.chain hb7)
      have K17 := Lib.hid (blk_below K16.out hb7)
      clear hb7 y0 y1 y2 y3 y4 y5
      obtain ⟨⟨y0, y1, y2, y3, y4, y5⟩, z0, z1, z2, z3, z4, z5⟩ := cellsK6_of K17.out
      dsimp only
      go_wp2_with fail
      obtain ⟨hbf, hyf⟩ := HFIN.out w7 _ _ _ _ _ _ B7.out K17.out (.string VC) (.string VR) (.string TS) (.string ⟨#[]⟩) (.string ⟨#[]⟩) (.string ⟨#[]⟩)
      obtain ⟨wf, hwf⟩ : ∃ wf, wf = setK6 w7 (b + 1) (.string VC) (.string VR) (.string TS) (.string ⟨#[]⟩) (.string ⟨#[]⟩) (.string ⟨#[]⟩) := ⟨_, rfl⟩
      change bodyPost _ _ _ _ _ (setK6 w7 (b + 1) (.string VC) (.string VR) (.string TS) (.string ⟨#[]⟩) (.string ⟨#[]⟩) (.string ⟨#[]⟩))
      rw [← hwf] at hbf hyf ⊢
      obtain ⟨⟨a0, a1, a2, a3, a4, a5⟩, -⟩ := cellsK6_of hyf
      have HBF := Lib.hid hbf
      clear hwf hbf hyf y0 y1 y2 y3 y4 y5 z0 z1 z2 z3 z4 z5 s1 s2 t1 t2
      refine bodyPost_ret (v := .tuple #[.agg #[.string VC, .string VR, .string TS, .string ⟨#[]⟩, .string ⟨#[]⟩, .string ⟨#[]⟩], .string WB, .bool true]) (by simp [results, Tryd.results8, go_sem, a0, a1, a2, a3, a4, a5]) rfl ⟨?_, HBF.out⟩
      (unfold AskSays askFew AskV.val; dsimp only; rw [EVC.out, EVR.out, HTS.out, HWB.out]; rfl)
end Go.Proofs.YtlcpehmdhnakpaaDoor
namespace Go.Proofs.YtlcpehmdhnakpaaDoor
open Go.ChangeShapes Go.WideShapes Go.ChangeAt Go.RowKit

theorem var0_of_shapedA {w : World} (h : w.ShapedOpen Tryd.prog) : ∃ m, w.cell? ⟨0, 0, none⟩ = some (.int .i64 m) :=
  cell_of_shapedOpen_int (P := Tryd.prog) (g := 0) (t := 3) (zero := #[.int .i64 0]) h (of_decide_eq_true (by kernel_rfl)) (by kernel_rfl) rfl (by kernel_rfl) (by kernel_rfl) Tryd.underlying3
theorem askIn_of_laid {W : World} (_ : laidMetH Tryd.prog listedP W) (hs : W.ShapedOpen Tryd.prog) : CodeAsk W := askIn (var0_of_shapedA hs)
end Go.Proofs.YtlcpehmdhnakpaaDoor
