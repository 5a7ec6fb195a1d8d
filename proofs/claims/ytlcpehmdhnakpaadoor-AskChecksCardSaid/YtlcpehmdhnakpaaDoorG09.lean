/- Texts merged by program, in build order: AskRef. -/
import Derived.Test.YtlcpehmdhnakpaaDoorG05
import Derived.Test.YtlcpehmdhnakpaaDoorG06
import Derived.Test.YtlcpehmdhnakpaaDoorG07
import Derived.Test.YtlcpehmdhnakpaaDoorG08
import Derived.Deep.RegionLaw
import Derived.Deep.RegionWith
import Derived.Deep.Cut
set_option linter.unusedVariables false
set_option linter.unusedSimpArgs false
namespace Go.Proofs.YtlcpehmdhnakpaaDoor
open Go.RowKit
set_option linter.unusedVariables false
set_option linter.unusedSimpArgs false

/-- what Check answers -/
def AskSays (T : AskV × List UInt8 × Bool) (e : Ending) : Prop := e = .returned (.tuple #[T.1.val, tv T.2.1, .bool T.2.2])
/-- a client in a variable -/
def GotC (w wx : World) (p : Nat) (ID SE : ByteArray) (At : Option Addr) (nt ct : Nat) (t : List (List UInt8)) : Prop := Below w.heap.size w wx ∧ w.heap.size ≤ p ∧ wx.heap[p]? = some (.cells #[.string ID, .string SE, .slice At nt ct] 43 (0, 0)) ∧ RdT wx (.slice At nt ct) t
theorem gotC_call {w0 w w1 : World} {ID SE : ByteArray} {At : Option Addr} {nt ct : Nat} {t : List (List UInt8)} (hb0 : Below w0.heap.size w0 w) (hr : RdT w0 (.slice At nt ct) t) (hb : Below w.drew.heap.size w.drew w1) : GotC w (w1.alloc (.cells #[.string ID, .string SE, .slice At nt ct] 43)) w1.heap.size ID SE At nt ct t := by
  have h1 : Below w.heap.size w w1 := ((Below.refl w.heap.size w).drew).chain hb
  have h2 : Below w1.heap.size w1 (w1.alloc (.cells #[.string ID, .string SE, .slice At nt ct] 43)) := (Below.refl _ _).alloc (Nat.le_refl _) _
  exact ⟨h1.chain h2, h1.size, heap_alloc_last _ _, hr.below (hb0.chain (h1.chain h2))⟩
theorem gotC_alloc {w0 w w1 : World} {ID SE : ByteArray} {At : Option Addr} {nt ct : Nat} {t : List (List UInt8)} (hb0 : Below w0.heap.size w0 w) (hr : RdT w0 (.slice At nt ct) t) (hb : Below (w.alloc (.cells #[.string ⟨#[]⟩, .string ⟨#[]⟩, .slice none 0 0] 43)).drew.heap.size (w.alloc (.cells #[.string ⟨#[]⟩, .string ⟨#[]⟩, .slice none 0 0] 43)).drew w1)
    (hq : w1.heap[w.heap.size]? = some (.cells #[.string ⟨#[]⟩, .string ⟨#[]⟩, .slice none 0 0] 43 (0, 0))) : GotC w (setK3 w1 w.heap.size (.string ID) (.string SE) (.slice At nt ct)) w.heap.size ID SE At nt ct t := by
  have h0 : Below w.heap.size w (w.alloc (.cells #[.string ⟨#[]⟩, .string ⟨#[]⟩, .slice none 0 0] 43)).drew := ((Below.refl _ _).alloc (Nat.le_refl _) _).drew
  have h2 := setK3_below (h0.chain hb) (Nat.le_refl _) (.string ID) (.string SE) (.slice At nt ct)
  exact ⟨h2, Nat.le_refl _, setK3_here hq, hr.below (hb0.chain h2)⟩
/-- what is asked, in a variable -/
def GotA (w wx : World) (p : Nat) (c0 c1 c2 c3 c4 c5 : ByteArray) : Prop := Below w.heap.size w wx ∧ w.heap.size ≤ p ∧ wx.heap[p]? = some (.cells #[.string c0, .string c1, .string c2, .string c3, .string c4, .string c5] 33 (0, 0))
theorem gotA_at {w X : World} {c0 c1 c2 c3 c4 c5 : ByteArray} (hx : Below w.heap.size w X) (hq : X.heap[w.heap.size]? = some (.cells #[.string ⟨#[]⟩, .string ⟨#[]⟩, .string ⟨#[]⟩, .string ⟨#[]⟩, .string ⟨#[]⟩, .string ⟨#[]⟩] 33 (0, 0))) : GotA w (setK6 X w.heap.size (.string c0) (.string c1) (.string c2) (.string c3) (.string c4) (.string c5)) w.heap.size c0 c1 c2 c3 c4 c5 :=
  ⟨setK6_below hx (Nat.le_refl _) _ _ _ _ _ _, Nat.le_refl _, setK6_here hq⟩
set_option maxRecDepth 100000 in
set_option maxHeartbeats 8000000 in
theorem refAsk_any (x : CfgP) (A : Option Addr) (n c : Nat) (A' : Option Addr) (n' c' : Nat) (q : List UInt8) (w : World) (h : CfgIs w x A n c A' n' c') (hfit : x.fit) (hn : n ≤ 20) :
    Calls Tryd.prog 9 #[x.val A n c A' n' c', tv q] w fun e w' => AskSays (askP x q) e ∧ Below w.heap.size w w' := by
  obtain ⟨IS, hIS⟩ : ∃ z : ByteArray, (⟨x.gIssuer.toArray⟩ : ByteArray) = z := ⟨_, rfl⟩
  obtain ⟨KI, hKI⟩ : ∃ z : ByteArray, (⟨x.gKeyID.toArray⟩ : ByteArray) = z := ⟨_, rfl⟩
  obtain ⟨KS, hKS⟩ : ∃ z : ByteArray, (⟨x.gKeySecret.toArray⟩ : ByteArray) = z := ⟨_, rfl⟩
  obtain ⟨Q, hQ⟩ : ∃ z : ByteArray, (⟨q.toArray⟩ : ByteArray) = z := ⟨_, rfl⟩
  have hv : x.val A n c A' n' c' = .agg #[.string IS, .string KI, .string KS, .slice A n c, .slice A' n' c'] := by unfold CfgP.val tv; rw [hIS, hKI, hKS]
  have tQ : tv q = .string Q := by rw [← hQ]; rfl
  have dQ : Q.data.toList = q := by rw [← hQ]
  have hform := fun W => form_any Q W
  rw [dQ] at hform
  obtain ⟨l, hl⟩ : ∃ l, parseP q = l := ⟨_, rfl⟩
  have hll := (parseP_le q).1
  have hgl := fun k => gP_le q k
  rw [hl] at hform hll hgl
  obtain ⟨E, hE⟩ : ∃ E, parseE q = E := ⟨_, rfl⟩
  rw [hE] at hform
  obtain ⟨T, hT⟩ : ∃ T, askP x q = T := ⟨_, rfl⟩
  rw [hT]
  unfold askP at hT
  rw [hl, hE] at hT
  obtain ⟨b, hb⟩ : ∃ b, w.heap.size = b := ⟨_, rfl⟩
  obtain ⟨W0, hW0⟩ : ∃ W, (w.alloc (.cells #[.string IS, .string KI, .string KS, .slice A n c, .slice A' n' c'] 27)).alloc (.cells #[.string ⟨#[]⟩, .string ⟨#[]⟩, .string ⟨#[]⟩, .string ⟨#[]⟩, .string ⟨#[]⟩, .string ⟨#[]⟩] 33) = W := ⟨_, rfl⟩
  have hb0 : Below w.heap.size w W0 := by rw [← hW0]; exact ((Below.refl _ _).alloc (Nat.le_refl _) _).alloc (by simp) _
  have k0 : W0.heap[b]? = some (.cells #[.string IS, .string KI, .string KS, .slice A n c, .slice A' n' c'] 27 (0, 0)) := by rw [← hW0, ← hb]; exact alloc_block (heap_alloc_last w _)
  have k1 : W0.heap[b + 1]? = some (.cells #[.string ⟨#[]⟩, .string ⟨#[]⟩, .string ⟨#[]⟩, .string ⟨#[]⟩, .string ⟨#[]⟩, .string ⟨#[]⟩] 33 (0, 0)) := by rw [← hW0, ← hb]; exact fresh_at _ (by simp)
  have hcf : ∀ W, Below W0.heap.size W0 W → CfgIs W x A n c A' n' c' := fun W hB => h.below (hb0.chain hB)
  have hcl := fun k W (hB : Below W0.heap.size W0 W) => refClientW_any x A n c A' n' c' k w W h (hb0.chain hB) (by omega)
  have hfin : ∀ W, Below W0.heap.size W0 W → ∀ c0 c1 c2 c3 c4 c5, Below w.heap.size w (setK6 W (b + 1) c0 c1 c2 c3 c4 c5) ∧ (setK6 W (b + 1) c0 c1 c2 c3 c4 c5).heap[b + 1]? = some (.cells #[c0, c1, c2, c3, c4, c5] 33 (0, 0)) := fun W hB c0 c1 c2 c3 c4 c5 => ⟨setK6_below (hb0.chain hB) (by omega) _ _ _ _ _ _, setK6_here (blk_below k1 hB)⟩
  rw [hv] at hcl ⊢
  rw [tQ]
  have HFORM := Lib.hid hform; have HLL := Lib.hid hll; have HGL := Lib.hid hgl; have HT := Lib.hid hT; have HB := Lib.hid hb; have HW0 := Lib.hid hW0; have HB0 := Lib.hid hb0; have K0 := Lib.hid k0; have K1 := Lib.hid k1; have HCL := Lib.hid hcl; have HFIN := Lib.hid hfin; have HFIT := Lib.hid hfit; have HCN := Lib.hid h.1
  clear hform hll hgl hT hb hW0 hb0 k0 k1 hcl hfin hfit h hcf hv tQ dQ hQ hIS hKI hKS hl hE
  go_enter Tryd.func9, Tryd.ntmps9
  go_upto_region 1 with fail
  rw [HW0.out, HB.out]
  go_wp2_with fail
  refine (HFORM.out _).mono ?_
  rintro e w1 ⟨v1, rfl, hr1, hb1⟩
  obtain ⟨A1, c1, rfl, hp1⟩ := hr1.reads
  have B1 := Lib.hid hb1
  obtain ⟨np, hnp⟩ : ∃ z, l.length = z := ⟨_, rfl⟩
  have htw := refTwice_any A1 c1 w1.heap.size l (by have := HLL.out; unfold maxLen; omega) w1 hp1
  obtain ⟨tw, htwv⟩ : ∃ z, twiceB l = z := ⟨_, rfl⟩
  rw [htwv, hnp] at htw
  rw [hnp]
  have HNP := Lib.hid hnp; have HP1 := Lib.hid hp1; have HTW := Lib.hid htw
  have hT := HT.out
  rw [htwv] at hT
  clear hr1 hb1 htw htwv hnp hp1 HT
  dsimp only
  obtain ⟨⟨y0, y1, y2, y3, y4, y5⟩, z0, z1, z2, z3, z4, z5⟩ := cellsK6_of (blk_below K1.out B1.out)
  by_cases h0 : E = 0
  rotate_left
  · have t0 : (E != 0) = true := by simpa using h0
    rw [if_pos (Or.inl h0)] at hT
    subst hT
    clear h0
    go_wp2_with fail
    obtain ⟨hbf, hyf⟩ := HFIN.out w1 (B1.out) (.string ⟨#[]⟩) (.string ⟨#[]⟩) (.string ⟨#[]⟩) (.string ⟨#[]⟩) (.string ⟨#[]⟩) (.string ⟨#[]⟩)
    obtain ⟨wf, hwf⟩ : ∃ wf, wf = setK6 w1 (b + 1) (.string ⟨#[]⟩) (.string ⟨#[]⟩) (.string ⟨#[]⟩) (.string ⟨#[]⟩) (.string ⟨#[]⟩) (.string ⟨#[]⟩) := ⟨_, rfl⟩
    change bodyPost _ _ _ _ _ (setK6 w1 (b + 1) (.string ⟨#[]⟩) (.string ⟨#[]⟩) (.string ⟨#[]⟩) (.string ⟨#[]⟩) (.string ⟨#[]⟩) (.string ⟨#[]⟩))
    rw [← hwf] at hbf hyf ⊢
    obtain ⟨⟨a0, a1, a2, a3, a4, a5⟩, -⟩ := cellsK6_of hyf
    have HBF := Lib.hid hbf
    clear hwf hbf hyf y0 y1 y2 y3 y4 y5 z0 z1 z2 z3 z4 z5
    refine bodyPost_ret (v := .tuple #[.agg #[.string ⟨#[]⟩, .string ⟨#[]⟩, .string ⟨#[]⟩, .string ⟨#[]⟩, .string ⟨#[]⟩, .string ⟨#[]⟩], .string ⟨#[105, 110, 118, 97, 108, 105, 100, 95, 114, 101, 113, 117, 101, 115, 116]⟩, .bool false]) (by simp [results, Tryd.results9, go_sem, a0, a1, a2, a3, a4, a5]) rfl ⟨?_, HBF.out⟩
    rfl
  have t0 : (E != 0) = false := by simp [h0]
  cases tw with
  | true =>
    rw [if_pos (Or.inr rfl)] at hT
    subst hT
    go_wp2_with fail
    refine HTW.out.mono ?_
    rintro e w2 ⟨rfl, q0, rfl⟩
    obtain ⟨w2, hw2⟩ : ∃ z, w1.drewN q0 = z := ⟨_, rfl⟩
    rw [hw2]
    have B2 := Lib.hid (show Below W0.heap.size W0 w2 by rw [← hw2]; exact belowDrewN B1.out q0)
    clear hw2 y0 y1 y2 y3 y4 y5 z0 z1 z2 z3 z4 z5
    obtain ⟨⟨y0, y1, y2, y3, y4, y5⟩, z0, z1, z2, z3, z4, z5⟩ := cellsK6_of (blk_below K1.out B2.out)
    dsimp only
    go_wp2_with fail
    obtain ⟨hbf, hyf⟩ := HFIN.out w2 (B2.out) (.string ⟨#[]⟩) (.string ⟨#[]⟩) (.string ⟨#[]⟩) (.string ⟨#[]⟩) (.string ⟨#[]⟩) (.string ⟨#[]⟩)
    obtain ⟨wf, hwf⟩ : ∃ wf, wf = setK6 w2 (b + 1) (.string ⟨#[]⟩) (.string ⟨#[]⟩) (.string ⟨#[]⟩) (.string ⟨#[]⟩) (.string ⟨#[]⟩) (.string ⟨#[]⟩) := ⟨_, rfl⟩
    change bodyPost _ _ _ _ _ (setK6 w2 (b + 1) (.string ⟨#[]⟩) (.string ⟨#[]⟩) (.string ⟨#[]⟩) (.string ⟨#[]⟩) (.string ⟨#[]⟩) (.string ⟨#[]⟩))
    rw [← hwf] at hbf hyf ⊢
    obtain ⟨⟨a0, a1, a2, a3, a4, a5⟩, -⟩ := cellsK6_of hyf
    have HBF := Lib.hid hbf
    clear hwf hbf hyf y0 y1 y2 y3 y4 y5 z0 z1 z2 z3 z4 z5
    refine bodyPost_ret (v := .tuple #[.agg #[.string ⟨#[]⟩, .string ⟨#[]⟩, .string ⟨#[]⟩, .string ⟨#[]⟩, .string ⟨#[]⟩, .string ⟨#[]⟩], .string ⟨#[105, 110, 118, 97, 108, 105, 100, 95, 114, 101, 113, 117, 101, 115, 116]⟩, .bool false]) (by simp [results, Tryd.results9, go_sem, a0, a1, a2, a3, a4, a5]) rfl ⟨?_, HBF.out⟩
    rfl
  | false =>
    rw [if_neg (by simp [h0])] at hT
    go_wp2_with fail
    refine HTW.out.mono ?_
    rintro e w2 ⟨rfl, q0, rfl⟩
    obtain ⟨w2, hw2⟩ : ∃ z, w1.drewN q0 = z := ⟨_, rfl⟩
    rw [hw2]
    have B2 := Lib.hid (show Below W0.heap.size W0 w2 by rw [← hw2]; exact belowDrewN B1.out q0)
    have HP2 := Lib.hid (show Prs w2 w2.heap.size A1 l by rw [← hw2]; exact HP1.out.below (belowDrewN (Below.refl _ _) q0))
    clear hw2 y0 y1 y2 y3 y4 y5 z0 z1 z2 z3 z4 z5
    dsimp only
    have hpw : ∀ W, Below w2.heap.size w2 W → Prs W W.heap.size A1 l := fun W hB => (HP2.out.below hB).more hB.size
    obtain ⟨VC, hVC⟩ : ∃ z : ByteArray, (⟨(gP l kCid).toArray⟩ : ByteArray) = z := ⟨_, rfl⟩
    have gVC : ∀ W, Below w2.heap.size w2 W → Calls Tryd.prog 13 #[.slice A1 np c1, .string ⟨#[99, 108, 105, 101, 110, 116, 95, 105, 100]⟩] W fun e w' => e = .returned (.string VC) ∧ W = w' := fun W hB => by
      have h := refGet_any A1 c1 W.heap.size l kCid (by have := HLL.out; unfold maxLen; omega) W (hpw W hB)
      rw [HNP.out] at h
      rw [← hVC]; exact h
    have zVC : VC.size ≤ 4096 := by rw [← hVC]; show (gP l kCid).toArray.size ≤ _; rw [List.size_toArray]; exact HGL.out kCid
    have dVC : VC.data.toList = gP l kCid := by rw [← hVC]
    have lVC : VC.size = (gP l kCid).length := by rw [← hVC]; show (gP l kCid).toArray.size = _; rw [List.size_toArray]
    have GVC := Lib.hid gVC; have DVC := Lib.hid dVC; have ZVC := Lib.hid zVC; have LZVC := Lib.hid lVC; have EVC := Lib.hid hVC
    clear gVC dVC zVC lVC hVC
    obtain ⟨VR, hVR⟩ : ∃ z : ByteArray, (⟨(gP l kRed).toArray⟩ : ByteArray) = z := ⟨_, rfl⟩
    have gVR : ∀ W, Below w2.heap.size w2 W → Calls Tryd.prog 13 #[.slice A1 np c1, .string ⟨#[114, 101, 100, 105, 114, 101, 99, 116, 95, 117, 114, 105]⟩] W fun e w' => e = .returned (.string VR) ∧ W = w' := fun W hB => by
      have h := refGet_any A1 c1 W.heap.size l kRed (by have := HLL.out; unfold maxLen; omega) W (hpw W hB)
      rw [HNP.out] at h
      rw [← hVR]; exact h
    have zVR : VR.size ≤ 4096 := by rw [← hVR]; show (gP l kRed).toArray.size ≤ _; rw [List.size_toArray]; exact HGL.out kRed
    have dVR : VR.data.toList = gP l kRed := by rw [← hVR]
    have lVR : VR.size = (gP l kRed).length := by rw [← hVR]; show (gP l kRed).toArray.size = _; rw [List.size_toArray]
    have GVR := Lib.hid gVR; have DVR := Lib.hid dVR; have ZVR := Lib.hid zVR; have LZVR := Lib.hid lVR; have EVR := Lib.hid hVR
    clear gVR dVR zVR lVR hVR
    obtain ⟨VS, hVS⟩ : ∃ z : ByteArray, (⟨(gP l kSta).toArray⟩ : ByteArray) = z := ⟨_, rfl⟩
    have gVS : ∀ W, Below w2.heap.size w2 W → Calls Tryd.prog 13 #[.slice A1 np c1, .string ⟨#[115, 116, 97, 116, 101]⟩] W fun e w' => e = .returned (.string VS) ∧ W = w' := fun W hB => by
      have h := refGet_any A1 c1 W.heap.size l kSta (by have := HLL.out; unfold maxLen; omega) W (hpw W hB)
      rw [HNP.out] at h
      rw [← hVS]; exact h
    have zVS : VS.size ≤ 4096 := by rw [← hVS]; show (gP l kSta).toArray.size ≤ _; rw [List.size_toArray]; exact HGL.out kSta
    have dVS : VS.data.toList = gP l kSta := by rw [← hVS]
    have lVS : VS.size = (gP l kSta).length := by rw [← hVS]; show (gP l kSta).toArray.size = _; rw [List.size_toArray]
    have GVS := Lib.hid gVS; have DVS := Lib.hid dVS; have ZVS := Lib.hid zVS; have LZVS := Lib.hid lVS; have EVS := Lib.hid hVS
    clear gVS dVS zVS lVS hVS
    obtain ⟨VN, hVN⟩ : ∃ z : ByteArray, (⟨(gP l kNon).toArray⟩ : ByteArray) = z := ⟨_, rfl⟩
    have gVN : ∀ W, Below w2.heap.size w2 W → Calls Tryd.prog 13 #[.slice A1 np c1, .string ⟨#[110, 111, 110, 99, 101]⟩] W fun e w' => e = .returned (.string VN) ∧ W = w' := fun W hB => by
      have h := refGet_any A1 c1 W.heap.size l kNon (by have := HLL.out; unfold maxLen; omega) W (hpw W hB)
      rw [HNP.out] at h
      rw [← hVN]; exact h
    have zVN : VN.size ≤ 4096 := by rw [← hVN]; show (gP l kNon).toArray.size ≤ _; rw [List.size_toArray]; exact HGL.out kNon
    have dVN : VN.data.toList = gP l kNon := by rw [← hVN]
    have lVN : VN.size = (gP l kNon).length := by rw [← hVN]; show (gP l kNon).toArray.size = _; rw [List.size_toArray]
    have GVN := Lib.hid gVN; have DVN := Lib.hid dVN; have ZVN := Lib.hid zVN; have LZVN := Lib.hid lVN; have EVN := Lib.hid hVN
    clear gVN dVN zVN lVN hVN
    obtain ⟨VO, hVO⟩ : ∃ z : ByteArray, (⟨(gP l kSco).toArray⟩ : ByteArray) = z := ⟨_, rfl⟩
    have gVO : ∀ W, Below w2.heap.size w2 W → Calls Tryd.prog 13 #[.slice A1 np c1, .string ⟨#[115, 99, 111, 112, 101]⟩] W fun e w' => e = .returned (.string VO) ∧ W = w' := fun W hB => by
      have h := refGet_any A1 c1 W.heap.size l kSco (by have := HLL.out; unfold maxLen; omega) W (hpw W hB)
      rw [HNP.out] at h
      rw [← hVO]; exact h
    have zVO : VO.size ≤ 4096 := by rw [← hVO]; show (gP l kSco).toArray.size ≤ _; rw [List.size_toArray]; exact HGL.out kSco
    have dVO : VO.data.toList = gP l kSco := by rw [← hVO]
    have lVO : VO.size = (gP l kSco).length := by rw [← hVO]; show (gP l kSco).toArray.size = _; rw [List.size_toArray]
    have GVO := Lib.hid gVO; have DVO := Lib.hid dVO; have ZVO := Lib.hid zVO; have LZVO := Lib.hid lVO; have EVO := Lib.hid hVO
    clear gVO dVO zVO lVO hVO
    obtain ⟨VH, hVH⟩ : ∃ z : ByteArray, (⟨(gP l kCha).toArray⟩ : ByteArray) = z := ⟨_, rfl⟩
    have gVH : ∀ W, Below w2.heap.size w2 W → Calls Tryd.prog 13 #[.slice A1 np c1, .string ⟨#[99, 111, 100, 101, 95, 99, 104, 97, 108, 108, 101, 110, 103, 101]⟩] W fun e w' => e = .returned (.string VH) ∧ W = w' := fun W hB => by
      have h := refGet_any A1 c1 W.heap.size l kCha (by have := HLL.out; unfold maxLen; omega) W (hpw W hB)
      rw [HNP.out] at h
      rw [← hVH]; exact h
    have zVH : VH.size ≤ 4096 := by rw [← hVH]; show (gP l kCha).toArray.size ≤ _; rw [List.size_toArray]; exact HGL.out kCha
    have dVH : VH.data.toList = gP l kCha := by rw [← hVH]
    have lVH : VH.size = (gP l kCha).length := by rw [← hVH]; show (gP l kCha).toArray.size = _; rw [List.size_toArray]
    have GVH := Lib.hid gVH; have DVH := Lib.hid dVH; have ZVH := Lib.hid zVH; have LZVH := Lib.hid lVH; have EVH := Lib.hid hVH
    clear gVH dVH zVH lVH hVH
    obtain ⟨VT, hVT⟩ : ∃ z : ByteArray, (⟨(gP l kTyp).toArray⟩ : ByteArray) = z := ⟨_, rfl⟩
    have gVT : ∀ W, Below w2.heap.size w2 W → Calls Tryd.prog 13 #[.slice A1 np c1, .string ⟨#[114, 101, 115, 112, 111, 110, 115, 101, 95, 116, 121, 112, 101]⟩] W fun e w' => e = .returned (.string VT) ∧ W = w' := fun W hB => by
      have h := refGet_any A1 c1 W.heap.size l kTyp (by have := HLL.out; unfold maxLen; omega) W (hpw W hB)
      rw [HNP.out] at h
      rw [← hVT]; exact h
    have zVT : VT.size ≤ 4096 := by rw [← hVT]; show (gP l kTyp).toArray.size ≤ _; rw [List.size_toArray]; exact HGL.out kTyp
    have dVT : VT.data.toList = gP l kTyp := by rw [← hVT]
    have lVT : VT.size = (gP l kTyp).length := by rw [← hVT]; show (gP l kTyp).toArray.size = _; rw [List.size_toArray]
    have GVT := Lib.hid gVT; have DVT := Lib.hid dVT; have ZVT := Lib.hid zVT; have LZVT := Lib.hid lVT; have EVT := Lib.hid hVT
    clear gVT dVT zVT lVT hVT
    obtain ⟨VM, hVM⟩ : ∃ z : ByteArray, (⟨(gP l kMet).toArray⟩ : ByteArray) = z := ⟨_, rfl⟩
    have gVM : ∀ W, Below w2.heap.size w2 W → Calls Tryd.prog 13 #[.slice A1 np c1, .string ⟨#[99, 111, 100, 101, 95, 99, 104, 97, 108, 108, 101, 110, 103, 101, 95, 109, 101, 116, 104, 111, 100]⟩] W fun e w' => e = .returned (.string VM) ∧ W = w' := fun W hB => by
      have h := refGet_any A1 c1 W.heap.size l kMet (by have := HLL.out; unfold maxLen; omega) W (hpw W hB)
      rw [HNP.out] at h
      rw [← hVM]; exact h
    have zVM : VM.size ≤ 4096 := by rw [← hVM]; show (gP l kMet).toArray.size ≤ _; rw [List.size_toArray]; exact HGL.out kMet
    have dVM : VM.data.toList = gP l kMet := by rw [← hVM]
    have lVM : VM.size = (gP l kMet).length := by rw [← hVM]; show (gP l kMet).toArray.size = _; rw [List.size_toArray]
    have GVM := Lib.hid gVM; have DVM := Lib.hid dVM; have ZVM := Lib.hid zVM; have LZVM := Lib.hid lVM; have EVM := Lib.hid hVM
    clear gVM dVM zVM lVM hVM
    have hcc := fun W (hB : Below w2.heap.size w2 W) => HCL.out (gP l kCid) W (B2.out.chain hB)
    rw [EVC.out] at hcc
    unfold CliSays at hcc
    obtain ⟨FC, hFC⟩ : ∃ z, findCl x.gClients (gP l kCid) = z := ⟨_, rfl⟩
    rw [hFC] at hcc hT
    have HFC := Lib.hid hFC
    clear hFC hpw HFORM HTW HP1
    obtain ⟨⟨e0, e1, e2, e3, e4⟩, -⟩ := cellsK5_of (blk_below K0.out B2.out)
    have hz2 : Below w2.heap.size w2 (w2.alloc (.cells #[.string ⟨#[]⟩, .string ⟨#[]⟩, .slice none 0 0] 43)) := (Below.refl _ _).alloc (Nat.le_refl _) _
    obtain ⟨⟨i0, i1, i2, i3, i4⟩, -⟩ := cellsK5_of (blk_below K0.out (B2.out.chain hz2))
    obtain ⟨ID, SE, fb, t, hfb, hsay⟩ : ∃ (ID SE : ByteArray) (fb : Bool) (t : List (List UInt8)), ((fb = false ∧ FC = none) ∨ (fb = true ∧ ∃ r, FC = some r ∧ t = r.cReds ∧ tv r.cID = .string ID ∧ tv r.cSecret = .string SE)) ∧ ∀ W (_ : Below w2.heap.size w2 W), Calls Tryd.prog 11 #[.agg #[.string IS, .string KI, .string KS, .slice A n c, .slice A' n' c'], .string VC] W fun e w' => (∃ At ct, e = .returned (.tuple #[.agg #[.string ID, .string SE, .slice At t.length ct], .bool fb]) ∧ RdT w (.slice At t.length ct) t) ∧ Below W.heap.size W w' := by
      cases FC with
      | none =>
        exact ⟨⟨#[]⟩, ⟨#[]⟩, false, [], .inl ⟨rfl, rfl⟩, fun W hB => (hcc W hB).mono fun e w' h => ⟨⟨none, 0, h.1, none, 0, rfl, Nat.le_refl _, fun k y hk => by cases hk⟩, h.2⟩⟩
      | some r =>
        refine ⟨⟨r.cID.toArray⟩, ⟨r.cSecret.toArray⟩, true, r.cReds, .inr ⟨rfl, r, rfl, rfl, rfl, rfl⟩, fun W hB => (hcc W hB).mono fun e w' h => ⟨?_, h.2⟩⟩
        obtain ⟨u, h1, h2⟩ := h.1
        obtain ⟨At, ct, rfl⟩ := rdt_form h2
        exact ⟨At, ct, h1, h2⟩
    obtain ⟨nt, hnt⟩ : ∃ z, t.length = z := ⟨_, rfl⟩
    rw [hnt] at hsay
    have HCC := Lib.hid hsay; have HFB := Lib.hid hfb; have HNT := Lib.hid hnt
    clear hcc hz2 hsay hfb hnt HCL
    have HTT := Lib.hid hT
    clear hT
    go_upto_region 4 with fail
    go_cut [9, 10] from 11 (fun s9 s10 wx => ∃ p At ct, s9 = .pointer (some ⟨p, 0, none⟩) ∧ s10 = .bool fb ∧ Hid (GotC w2 wx p ID SE At nt ct t))
    case first =>
      go_region_law (first
        | (go_simp; go_at_call 13; (with_reducible refine (GVC.out _ (Below.refl w2.heap.size w2).drew).mono ?_); rintro e1 w3 ⟨rfl, rfl⟩; dsimp only)
        | (go_simp; go_at_call 11; (with_reducible refine (HCC.out _ (Below.refl w2.heap.size w2).drew).mono ?_); rintro e1 w3 ⟨⟨At, ct, rfl, hrd⟩, hb3⟩; dsimp only)
        | (go_simp; go_at_call 13; (with_reducible refine (GVC.out _ ((Below.refl w2.heap.size w2).alloc (Nat.le_refl _) (.cells #[.string ⟨#[]⟩, .string ⟨#[]⟩, .slice none 0 0] 43)).drew).mono ?_); rintro e1 w3 ⟨rfl, rfl⟩; dsimp only)
        | (go_simp; go_at_call 11; (with_reducible refine (HCC.out _ ((Below.refl w2.heap.size w2).alloc (Nat.le_refl _) (.cells #[.string ⟨#[]⟩, .string ⟨#[]⟩, .slice none 0 0] 43)).drew).mono ?_); rintro e1 w3 ⟨⟨At, ct, rfl, hrd⟩, hb3⟩; have hq1 := (hb3.block w2.heap.size (by simp)).trans (heap_alloc_last w2 (.cells #[.string ⟨#[]⟩, .string ⟨#[]⟩, .slice none 0 0] 43)); obtain ⟨⟨n0, n1, n2⟩, f0, f1, f2⟩ := cellsK3_of hq1; dsimp only))
      all_goals first
        | (have HG := Lib.hid (gotC_alloc (ID := ID) (SE := SE) (HB0.out.chain B2.out) hrd hb3 hq1)
           clear hb3 hrd hq1 n0 n1 n2 f0 f1 f2
           go_wp2
           go_meet
           case rel => exact ⟨_, _, _, rfl, rfl, HG⟩)
        | (have HG := Lib.hid (gotC_call (ID := ID) (SE := SE) (HB0.out.chain B2.out) hrd hb3)
           clear hb3 hrd
           go_wp2
           go_meet
           case rel => exact ⟨_, _, _, rfl, rfl, HG⟩)
    case rest =>
      obtain ⟨p, At, ct, rfl, rfl, HG⟩ := hcut
      obtain ⟨hg1, hg2, hg3, hg4⟩ := HG.out
      have B4 := Lib.hid (B2.out.chain hg1); have KP := Lib.hid hg3; have HRT := Lib.hid hg4; have HPG := Lib.hid hg2; have HPW := Lib.hid (fun W (hB : Below wc.heap.size wc W) => hg1.chain hB)
      clear HG hg1 hg2 hg3 hg4
      have hT := HTT.out
      rcases HFB.out with ⟨rfl, hF⟩ | ⟨rfl, r, hF, ht, hI, hS⟩
      · subst hF
        dsimp only at hT
        subst hT
        obtain ⟨⟨y0, y1, y2, y3, y4, y5⟩, z0, z1, z2, z3, z4, z5⟩ := cellsK6_of (blk_below K1.out B4.out)
        go_wp2_with fail
        obtain ⟨hbf, hyf⟩ := HFIN.out wc (B4.out) (.string ⟨#[]⟩) (.string ⟨#[]⟩) (.string ⟨#[]⟩) (.string ⟨#[]⟩) (.string ⟨#[]⟩) (.string ⟨#[]⟩)
        obtain ⟨wf, hwf⟩ : ∃ wf, wf = setK6 wc (b + 1) (.string ⟨#[]⟩) (.string ⟨#[]⟩) (.string ⟨#[]⟩) (.string ⟨#[]⟩) (.string ⟨#[]⟩) (.string ⟨#[]⟩) := ⟨_, rfl⟩
        change bodyPost _ _ _ _ _ (setK6 wc (b + 1) (.string ⟨#[]⟩) (.string ⟨#[]⟩) (.string ⟨#[]⟩) (.string ⟨#[]⟩) (.string ⟨#[]⟩) (.string ⟨#[]⟩))
        rw [← hwf] at hbf hyf ⊢
        obtain ⟨⟨a0, a1, a2, a3, a4, a5⟩, -⟩ := cellsK6_of hyf
        have HBF := Lib.hid hbf
        clear hwf hbf hyf y0 y1 y2 y3 y4 y5 z0 z1 z2 z3 z4 z5
        refine bodyPost_ret (v := .tuple #[.agg #[.string ⟨#[]⟩, .string ⟨#[]⟩, .string ⟨#[]⟩, .string ⟨#[]⟩, .string ⟨#[]⟩, .string ⟨#[]⟩], .string ⟨#[105, 110, 118, 97, 108, 105, 100, 95, 99, 108, 105, 101, 110, 116]⟩, .bool false]) (by simp [results, Tryd.results9, go_sem, a0, a1, a2, a3, a4, a5]) rfl ⟨?_, HBF.out⟩
        rfl
      · subst hF
        dsimp only at hT
        have hre := fun W (hB : Below wc.heap.size wc W) => refRedirect_any r At nt ct (gP l kRed) W (by rw [← ht]; exact HNT.out.symm) (by have h1 := (HFIT.out.2.2.2.2.1 r (find_mem HFC.out)).2.2.1; rw [← ht, HNT.out] at h1; omega) (by have h2 := HRT.out.below hB; rw [ht] at h2; exact h2)
        rw [EVR.out, hI, hS] at hre
        obtain ⟨rb, hrb⟩ : ∃ z, redirP r (gP l kRed) = z := ⟨_, rfl⟩
        rw [hrb] at hre hT
        have hidv : ID = VC := by
          have h1 := find_id HFC.out
          rw [h1] at hI
          have h2 : Value.string ⟨(gP l kCid).toArray⟩ = .string ID := hI
          rw [EVC.out] at h2
          injection h2 with h2
          exact h2.symm
        subst hidv
        have HRE := Lib.hid hre; have HTT2 := Lib.hid hT
        obtain ⟨⟨m0, m1, m2⟩, -⟩ := cellsK3_of KP.out
        have HCP := Lib.hid (fun W (hB : Below wc.heap.size wc W) => (cellsK3_of (blk_below KP.out hB)).1.1)
        clear hre hT hrb hI hS HFB HTT HCC ht
        go_upto_region 7 with fail
        go_cut [11] from 12 (fun s11 wx => ∃ pa, s11 = .pointer (some ⟨pa, 0, none⟩) ∧ Hid (GotA wc wx pa ID VR VS VN VO VH))
        case first =>
          refine wp_region_held_drew (S := (fun W => W.cell? ⟨p, 0, none⟩ = some (.string ID))) (by kernel_rfl) (HCP.out _ (Below.refl wc.heap.size wc).drew) (fun hHeld => ?_)
          refine wpAnyH_take (i := 0) (oi := _) (v := ?v75001) (by simp only [List.getElem?_toArray, List.getElem?_cons_succ, List.getElem?_cons_zero]; rfl) (by kernel_rfl) (by kernel_rfl) (by kernel_rfl) (by exact fun _ _ _ h => h) (Or.inl ⟨by rfl, ?hy75001⟩) (by assumption) ?rest75001
          case hy75001 => (intro w hSw; (try dsimp only at hSw); go_simp; try with_reducible rfl)
          try simp only [Act.put, List.setIfInBounds_toArray, List.set_cons_zero, List.set_cons_succ]
          refine wpAnyH_take (i := 1) (oi := _) (v := ?v75002) (by simp only [List.getElem?_toArray, List.getElem?_cons_succ, List.getElem?_cons_zero]; rfl) (by kernel_rfl) (by kernel_rfl) (by kernel_rfl) (by exact fun _ _ _ h => h) (Or.inl ⟨by rfl, ?hy75002⟩) (by assumption) ?rest75002
          case hy75002 => (intro w hSw; (try dsimp only at hSw); go_simp; try with_reducible rfl)
          try simp only [Act.put, List.setIfInBounds_toArray, List.set_cons_zero, List.set_cons_succ]
          refine wpAnyH_take (i := 2) (oi := _) (v := ?v75003) (by simp only [List.getElem?_toArray, List.getElem?_cons_succ, List.getElem?_cons_zero]; rfl) (by kernel_rfl) (by kernel_rfl) (by kernel_rfl) (by exact fun _ _ _ h => h) (Or.inl ⟨by rfl, ?hy75003⟩) (by assumption) ?rest75003
          case hy75003 => (intro w hSw; (try dsimp only at hSw); go_simp; try with_reducible rfl)
          try simp only [Act.put, List.setIfInBounds_toArray, List.set_cons_zero, List.set_cons_succ]
          refine wpAnyH_take (i := 4) (oi := _) (v := ?v75004) (by simp only [List.getElem?_toArray, List.getElem?_cons_succ, List.getElem?_cons_zero]; rfl) (by kernel_rfl) (by kernel_rfl) (by kernel_rfl) (by exact fun _ _ _ h => h) (Or.inl ⟨by rfl, ?hy75004⟩) (by assumption) ?rest75004
          case hy75004 => (intro w hSw; (try dsimp only at hSw); go_simp; try with_reducible rfl)
          try simp only [Act.put, List.setIfInBounds_toArray, List.set_cons_zero, List.set_cons_succ]
          refine wpAnyH_take (i := 6) (oi := _) (v := ?v75005) (by simp only [List.getElem?_toArray, List.getElem?_cons_succ, List.getElem?_cons_zero]; rfl) (by kernel_rfl) (by kernel_rfl) (by kernel_rfl) (by exact fun _ _ _ h => h) (Or.inl ⟨by rfl, ?hy75005⟩) (by assumption) ?rest75005
          case hy75005 => (intro w hSw; (try dsimp only at hSw); go_simp; try with_reducible rfl)
          try simp only [Act.put, List.setIfInBounds_toArray, List.set_cons_zero, List.set_cons_succ]
          refine wpAnyH_take (i := 8) (oi := _) (v := ?v75006) (by simp only [List.getElem?_toArray, List.getElem?_cons_succ, List.getElem?_cons_zero]; rfl) (by kernel_rfl) (by kernel_rfl) (by kernel_rfl) (by exact fun _ _ _ h => h) (Or.inl ⟨by rfl, ?hy75006⟩) (by assumption) ?rest75006
          case hy75006 => (intro w hSw; (try dsimp only at hSw); go_simp; try with_reducible rfl)
          try simp only [Act.put, List.setIfInBounds_toArray, List.set_cons_zero, List.set_cons_succ]
          refine wpAnyH_take (i := 10) (oi := _) (v := ?v75007) (by simp only [List.getElem?_toArray, List.getElem?_cons_succ, List.getElem?_cons_zero]; rfl) (by kernel_rfl) (by kernel_rfl) (by kernel_rfl) (by exact fun _ _ _ h => h) (Or.inl ⟨by rfl, ?hy75007⟩) (by assumption) ?rest75007
          case hy75007 => (intro w hSw; (try dsimp only at hSw); go_simp; try with_reducible rfl)
          try simp only [Act.put, List.setIfInBounds_toArray, List.set_cons_zero, List.set_cons_succ]
          refine wpAnyH_ready (rs := [3, 13]) (by kernel_rfl) (by simp) ?_
          refine AllReadyH.cons (o := _) (by simp only [List.getElem?_toArray, List.getElem?_cons_succ, List.getElem?_cons_zero]; rfl) (fun K hK => ?_) (AllReadyH.cons (o := _) (by simp only [List.getElem?_toArray, List.getElem?_cons_succ, List.getElem?_cons_zero]; rfl) (fun K hK => ?_) AllReadyH.nil)
          · go_simp
            go_at_call 13
            (with_reducible refine (GVR.out _ (HPW.out _ (Below.refl wc.heap.size wc).drew)).mono ?_)
            rintro e1 w5 ⟨rfl, rfl⟩
            dsimp only
            refine hK.out _ _ (HCP.out _ (Below.refl wc.heap.size wc).drew) (fun hHeld => ?_)
            clear hK K
            try simp only [Act.put, List.setIfInBounds_toArray, List.set_cons_zero, List.set_cons_succ]
            refine wpAnyH_ready (rs := [5, 13]) (by kernel_rfl) (by simp) ?_
            refine AllReadyH.cons (o := _) (by simp only [List.getElem?_toArray, List.getElem?_cons_succ, List.getElem?_cons_zero]; rfl) (fun K hK => ?_) (AllReadyH.cons (o := _) (by simp only [List.getElem?_toArray, List.getElem?_cons_succ, List.getElem?_cons_zero]; rfl) (fun K hK => ?_) AllReadyH.nil)
            · go_simp
              go_at_call 13
              (with_reducible refine (GVS.out _ (HPW.out _ (Below.refl wc.heap.size wc).drew)).mono ?_)
              rintro e1 w5 ⟨rfl, rfl⟩
              dsimp only
              refine hK.out _ _ (HCP.out _ (Below.refl wc.heap.size wc).drew) (fun hHeld => ?_)
              clear hK K
              try simp only [Act.put, List.setIfInBounds_toArray, List.set_cons_zero, List.set_cons_succ]
              refine wpAnyH_ready (rs := [7, 13]) (by kernel_rfl) (by simp) ?_
              refine AllReadyH.cons (o := _) (by simp only [List.getElem?_toArray, List.getElem?_cons_succ, List.getElem?_cons_zero]; rfl) (fun K hK => ?_) (AllReadyH.cons (o := _) (by simp only [List.getElem?_toArray, List.getElem?_cons_succ, List.getElem?_cons_zero]; rfl) (fun K hK => ?_) AllReadyH.nil)
              · go_simp
                go_at_call 13
                (with_reducible refine (GVN.out _ (HPW.out _ (Below.refl wc.heap.size wc).drew)).mono ?_)
                rintro e1 w5 ⟨rfl, rfl⟩
                dsimp only
                refine hK.out _ _ (HCP.out _ (Below.refl wc.heap.size wc).drew) (fun hHeld => ?_)
                clear hK K
                try simp only [Act.put, List.setIfInBounds_toArray, List.set_cons_zero, List.set_cons_succ]
                refine wpAnyH_ready (rs := [9, 13]) (by kernel_rfl) (by simp) ?_
                refine AllReadyH.cons (o := _) (by simp only [List.getElem?_toArray, List.getElem?_cons_succ, List.getElem?_cons_zero]; rfl) (fun K hK => ?_) (AllReadyH.cons (o := _) (by simp only [List.getElem?_toArray, List.getElem?_cons_succ, List.getElem?_cons_zero]; rfl) (fun K hK => ?_) AllReadyH.nil)
                · go_simp
                  go_at_call 13
                  (with_reducible refine (GVO.out _ (HPW.out _ (Below.refl wc.heap.size wc).drew)).mono ?_)
                  rintro e1 w5 ⟨rfl, rfl⟩
                  dsimp only
                  refine hK.out _ _ (HCP.out _ (Below.refl wc.heap.size wc).drew) (fun hHeld => ?_)
                  clear hK K
                  try simp only [Act.put, List.setIfInBounds_toArray, List.set_cons_zero, List.set_cons_succ]
                  refine wpAnyH_ready (rs := [11, 13]) (by kernel_rfl) (by simp) ?_
                  refine AllReadyH.cons (o := _) (by simp only [List.getElem?_toArray, List.getElem?_cons_succ, List.getElem?_cons_zero]; rfl) (fun K hK => ?_) (AllReadyH.cons (o := _) (by simp only [List.getElem?_toArray, List.getElem?_cons_succ, List.getElem?_cons_zero]; rfl) (fun K hK => ?_) AllReadyH.nil)
                  · go_simp
                    go_at_call 13
                    (with_reducible refine (GVH.out _ (HPW.out _ (Below.refl wc.heap.size wc).drew)).mono ?_)
                    rintro e1 w5 ⟨rfl, rfl⟩
                    dsimp only
                    refine hK.out _ _ (HCP.out _ (Below.refl wc.heap.size wc).drew) (fun hHeld => ?_)
                    clear hK K
                    try simp only [Act.put, List.setIfInBounds_toArray, List.set_cons_zero, List.set_cons_succ]
                    refine wpAnyH_take (i := 12) (oi := _) (v := ?v75013) (by simp only [List.getElem?_toArray, List.getElem?_cons_succ, List.getElem?_cons_zero]; rfl) (by kernel_rfl) (by kernel_rfl) (by kernel_rfl) (by exact fun _ _ _ h => h) (Or.inl ⟨by rfl, ?hy75013⟩) (by assumption) ?rest75013
                    case hy75013 => (intro w hSw; (try dsimp only at hSw); go_simp; try with_reducible rfl)
                    try simp only [Act.put, List.setIfInBounds_toArray, List.set_cons_zero, List.set_cons_succ]
                    refine wpAnyH_ready (rs := [13]) (by kernel_rfl) (by simp) ?_
                    refine AllReadyH.cons (o := _) (by simp only [List.getElem?_toArray, List.getElem?_cons_succ, List.getElem?_cons_zero]; rfl) (fun K hK => ?_) AllReadyH.nil
                    go_simp
                    obtain ⟨X, hX⟩ : ∃ X, (wc.alloc (.cells #[.string ⟨#[]⟩, .string ⟨#[]⟩, .string ⟨#[]⟩, .string ⟨#[]⟩, .string ⟨#[]⟩, .string ⟨#[]⟩] 33)).drew = X := ⟨_, rfl⟩
                    have hx := ((Below.refl wc.heap.size wc).alloc (Nat.le_refl _) (.cells #[.string ⟨#[]⟩, .string ⟨#[]⟩, .string ⟨#[]⟩, .string ⟨#[]⟩, .string ⟨#[]⟩, .string ⟨#[]⟩] 33)).drew
                    have hxq : (wc.alloc (.cells #[.string ⟨#[]⟩, .string ⟨#[]⟩, .string ⟨#[]⟩, .string ⟨#[]⟩, .string ⟨#[]⟩, .string ⟨#[]⟩] 33)).drew.heap[wc.heap.size]? = some (.cells #[.string ⟨#[]⟩, .string ⟨#[]⟩, .string ⟨#[]⟩, .string ⟨#[]⟩, .string ⟨#[]⟩, .string ⟨#[]⟩] 33 (0, 0)) := heap_alloc_last wc _
                    rw [hX] at hx hxq ⊢
                    have HX := Lib.hid hx; have HXQ := Lib.hid hxq
                    obtain ⟨⟨r0, r1, r2, r3, r4, r5⟩, f0, f1, f2, f3, f4, f5⟩ := cellsK6_of hxq
                    clear hX hx hxq
                    refine hK.out _ _ (HCP.out _ HX.out) (fun hHeld => ?_)
                    clear hK K
                    try simp only [Act.put, List.setIfInBounds_toArray, List.set_cons_zero, List.set_cons_succ]
                    refine wpAnyH_ready (rs := [14]) (by kernel_rfl) (by simp) ?_
                    refine AllReadyH.cons (o := _) (by simp only [List.getElem?_toArray, List.getElem?_cons_succ, List.getElem?_cons_zero]; rfl) (fun K hK => ?_) AllReadyH.nil
                    go_simp
                    refine hK.out _ _ (HCP.out _ (setK6_below HX.out (Nat.le_refl _) _ _ _ _ _ _)) (fun hHeld => ?_)
                    clear hK K
                    try simp only [Act.put, List.setIfInBounds_toArray, List.set_cons_zero, List.set_cons_succ]
                    refine wpAnyH_done (by kernel_rfl) ?_ _
                    go_wp2
                    go_meet
                    case rel => exact ⟨_, rfl, Lib.hid (gotA_at HX.out HXQ.out)⟩
                  · go_simp
                    obtain ⟨X, hX⟩ : ∃ X, (wc.alloc (.cells #[.string ⟨#[]⟩, .string ⟨#[]⟩, .string ⟨#[]⟩, .string ⟨#[]⟩, .string ⟨#[]⟩, .string ⟨#[]⟩] 33)).drew = X := ⟨_, rfl⟩
                    have hx := ((Below.refl wc.heap.size wc).alloc (Nat.le_refl _) (.cells #[.string ⟨#[]⟩, .string ⟨#[]⟩, .string ⟨#[]⟩, .string ⟨#[]⟩, .string ⟨#[]⟩, .string ⟨#[]⟩] 33)).drew
                    have hxq : (wc.alloc (.cells #[.string ⟨#[]⟩, .string ⟨#[]⟩, .string ⟨#[]⟩, .string ⟨#[]⟩, .string ⟨#[]⟩, .string ⟨#[]⟩] 33)).drew.heap[wc.heap.size]? = some (.cells #[.string ⟨#[]⟩, .string ⟨#[]⟩, .string ⟨#[]⟩, .string ⟨#[]⟩, .string ⟨#[]⟩, .string ⟨#[]⟩] 33 (0, 0)) := heap_alloc_last wc _
                    rw [hX] at hx hxq ⊢
                    have HX := Lib.hid hx; have HXQ := Lib.hid hxq
                    obtain ⟨⟨r0, r1, r2, r3, r4, r5⟩, f0, f1, f2, f3, f4, f5⟩ := cellsK6_of hxq
                    clear hX hx hxq
                    refine hK.out _ _ (HCP.out _ HX.out) (fun hHeld => ?_)
                    clear hK K
                    try simp only [Act.put, List.setIfInBounds_toArray, List.set_cons_zero, List.set_cons_succ]
                    refine wpAnyH_ready (rs := [11]) (by kernel_rfl) (by simp) ?_
                    refine AllReadyH.cons (o := _) (by simp only [List.getElem?_toArray, List.getElem?_cons_succ, List.getElem?_cons_zero]; rfl) (fun K hK => ?_) AllReadyH.nil
                    go_simp
                    go_at_call 13
                    (with_reducible refine (GVH.out _ (HPW.out _ HX.out)).mono ?_)
                    rintro e1 w5 ⟨rfl, rfl⟩
                    dsimp only
                    refine hK.out _ _ (HCP.out _ HX.out) (fun hHeld => ?_)
                    clear hK K
                    try simp only [Act.put, List.setIfInBounds_toArray, List.set_cons_zero, List.set_cons_succ]
                    refine wpAnyH_take (i := 12) (oi := _) (v := ?v75017) (by simp only [List.getElem?_toArray, List.getElem?_cons_succ, List.getElem?_cons_zero]; rfl) (by kernel_rfl) (by kernel_rfl) (by kernel_rfl) (by exact fun _ _ _ h => h) (Or.inl ⟨by rfl, ?hy75017⟩) (by assumption) ?rest75017
                    case hy75017 => (intro w hSw; (try dsimp only at hSw); go_simp; try with_reducible rfl)
                    try simp only [Act.put, List.setIfInBounds_toArray, List.set_cons_zero, List.set_cons_succ]
                    refine wpAnyH_ready (rs := [14]) (by kernel_rfl) (by simp) ?_
                    refine AllReadyH.cons (o := _) (by simp only [List.getElem?_toArray, List.getElem?_cons_succ, List.getElem?_cons_zero]; rfl) (fun K hK => ?_) AllReadyH.nil
                    go_simp
                    refine hK.out _ _ (HCP.out _ (setK6_below HX.out (Nat.le_refl _) _ _ _ _ _ _)) (fun hHeld => ?_)
                    clear hK K
                    try simp only [Act.put, List.setIfInBounds_toArray, List.set_cons_zero, List.set_cons_succ]
                    refine wpAnyH_done (by kernel_rfl) ?_ _
                    go_wp2
                    go_meet
                    case rel => exact ⟨_, rfl, Lib.hid (gotA_at HX.out HXQ.out)⟩
                · go_simp
                  obtain ⟨X, hX⟩ : ∃ X, (wc.alloc (.cells #[.string ⟨#[]⟩, .string ⟨#[]⟩, .string ⟨#[]⟩, .string ⟨#[]⟩, .string ⟨#[]⟩, .string ⟨#[]⟩] 33)).drew = X := ⟨_, rfl⟩
                  have hx := ((Below.refl wc.heap.size wc).alloc (Nat.le_refl _) (.cells #[.string ⟨#[]⟩, .string ⟨#[]⟩, .string ⟨#[]⟩, .string ⟨#[]⟩, .string ⟨#[]⟩, .string ⟨#[]⟩] 33)).drew
                  have hxq : (wc.alloc (.cells #[.string ⟨#[]⟩, .string ⟨#[]⟩, .string ⟨#[]⟩, .string ⟨#[]⟩, .string ⟨#[]⟩, .string ⟨#[]⟩] 33)).drew.heap[wc.heap.size]? = some (.cells #[.string ⟨#[]⟩, .string ⟨#[]⟩, .string ⟨#[]⟩, .string ⟨#[]⟩, .string ⟨#[]⟩, .string ⟨#[]⟩] 33 (0, 0)) := heap_alloc_last wc _
                  rw [hX] at hx hxq ⊢
                  have HX := Lib.hid hx; have HXQ := Lib.hid hxq
                  obtain ⟨⟨r0, r1, r2, r3, r4, r5⟩, f0, f1, f2, f3, f4, f5⟩ := cellsK6_of hxq
                  clear hX hx hxq
                  refine hK.out _ _ (HCP.out _ HX.out) (fun hHeld => ?_)
                  clear hK K
                  try simp only [Act.put, List.setIfInBounds_toArray, List.set_cons_zero, List.set_cons_succ]
                  refine wpAnyH_ready (rs := [9]) (by kernel_rfl) (by simp) ?_
                  refine AllReadyH.cons (o := _) (by simp only [List.getElem?_toArray, List.getElem?_cons_succ, List.getElem?_cons_zero]; rfl) (fun K hK => ?_) AllReadyH.nil
                  go_simp
                  go_at_call 13
                  (with_reducible refine (GVO.out _ (HPW.out _ HX.out)).mono ?_)
                  rintro e1 w5 ⟨rfl, rfl⟩
                  dsimp only
                  refine hK.out _ _ (HCP.out _ HX.out) (fun hHeld => ?_)
                  clear hK K
                  try simp only [Act.put, List.setIfInBounds_toArray, List.set_cons_zero, List.set_cons_succ]
                  refine wpAnyH_ready (rs := [11]) (by kernel_rfl) (by simp) ?_
                  refine AllReadyH.cons (o := _) (by simp only [List.getElem?_toArray, List.getElem?_cons_succ, List.getElem?_cons_zero]; rfl) (fun K hK => ?_) AllReadyH.nil
                  go_simp
                  go_at_call 13
                  (with_reducible refine (GVH.out _ (HPW.out _ HX.out)).mono ?_)
                  rintro e1 w5 ⟨rfl, rfl⟩
                  dsimp only
                  refine hK.out _ _ (HCP.out _ HX.out) (fun hHeld => ?_)
                  clear hK K
                  try simp only [Act.put, List.setIfInBounds_toArray, List.set_cons_zero, List.set_cons_succ]
                  refine wpAnyH_take (i := 12) (oi := _) (v := ?v75021) (by simp only [List.getElem?_toArray, List.getElem?_cons_succ, List.getElem?_cons_zero]; rfl) (by kernel_rfl) (by kernel_rfl) (by kernel_rfl) (by exact fun _ _ _ h => h) (Or.inl ⟨by rfl, ?hy75021⟩) (by assumption) ?rest75021
                  case hy75021 => (intro w hSw; (try dsimp only at hSw); go_simp; try with_reducible rfl)
                  try simp only [Act.put, List.setIfInBounds_toArray, List.set_cons_zero, List.set_cons_succ]
                  refine wpAnyH_ready (rs := [14]) (by kernel_rfl) (by simp) ?_
                  refine AllReadyH.cons (o := _) (by simp only [List.getElem?_toArray, List.getElem?_cons_succ, List.getElem?_cons_zero]; rfl) (fun K hK => ?_) AllReadyH.nil
                  go_simp
                  refine hK.out _ _ (HCP.out _ (setK6_below HX.out (Nat.le_refl _) _ _ _ _ _ _)) (fun hHeld => ?_)
                  clear hK K
                  try simp only [Act.put, List.setIfInBounds_toArray, List.set_cons_zero, List.set_cons_succ]
                  refine wpAnyH_done (by kernel_rfl) ?_ _
                  go_wp2
                  go_meet
                  case rel => exact ⟨_, rfl, Lib.hid (gotA_at HX.out HXQ.out)⟩
              · go_simp
                obtain ⟨X, hX⟩ : ∃ X, (wc.alloc (.cells #[.string ⟨#[]⟩, .string ⟨#[]⟩, .string ⟨#[]⟩, .string ⟨#[]⟩, .string ⟨#[]⟩, .string ⟨#[]⟩] 33)).drew = X := ⟨_, rfl⟩
                have hx := ((Below.refl wc.heap.size wc).alloc (Nat.le_refl _) (.cells #[.string ⟨#[]⟩, .string ⟨#[]⟩, .string ⟨#[]⟩, .string ⟨#[]⟩, .string ⟨#[]⟩, .string ⟨#[]⟩] 33)).drew
                have hxq : (wc.alloc (.cells #[.string ⟨#[]⟩, .string ⟨#[]⟩, .string ⟨#[]⟩, .string ⟨#[]⟩, .string ⟨#[]⟩, .string ⟨#[]⟩] 33)).drew.heap[wc.heap.size]? = some (.cells #[.string ⟨#[]⟩, .string ⟨#[]⟩, .string ⟨#[]⟩, .string ⟨#[]⟩, .string ⟨#[]⟩, .string ⟨#[]⟩] 33 (0, 0)) := heap_alloc_last wc _
                rw [hX] at hx hxq ⊢
                have HX := Lib.hid hx; have HXQ := Lib.hid hxq
                obtain ⟨⟨r0, r1, r2, r3, r4, r5⟩, f0, f1, f2, f3, f4, f5⟩ := cellsK6_of hxq
                clear hX hx hxq
                refine hK.out _ _ (HCP.out _ HX.out) (fun hHeld => ?_)
                clear hK K
                try simp only [Act.put, List.setIfInBounds_toArray, List.set_cons_zero, List.set_cons_succ]
                refine wpAnyH_ready (rs := [7]) (by kernel_rfl) (by simp) ?_
                refine AllReadyH.cons (o := _) (by simp only [List.getElem?_toArray, List.getElem?_cons_succ, List.getElem?_cons_zero]; rfl) (fun K hK => ?_) AllReadyH.nil
                go_simp
                go_at_call 13
                (with_reducible refine (GVN.out _ (HPW.out _ HX.out)).mono ?_)
                rintro e1 w5 ⟨rfl, rfl⟩
                dsimp only
                refine hK.out _ _ (HCP.out _ HX.out) (fun hHeld => ?_)
                clear hK K
                try simp only [Act.put, List.setIfInBounds_toArray, List.set_cons_zero, List.set_cons_succ]
                refine wpAnyH_ready (rs := [9]) (by kernel_rfl) (by simp) ?_
                refine AllReadyH.cons (o := _) (by simp only [List.getElem?_toArray, List.getElem?_cons_succ, List.getElem?_cons_zero]; rfl) (fun K hK => ?_) AllReadyH.nil
                go_simp
                go_at_call 13
                (with_reducible refine (GVO.out _ (HPW.out _ HX.out)).mono ?_)
                rintro e1 w5 ⟨rfl, rfl⟩
                dsimp only
                refine hK.out _ _ (HCP.out _ HX.out) (fun hHeld => ?_)
                clear hK K
                try simp only [Act.put, List.setIfInBounds_toArray, List.set_cons_zero, List.set_cons_succ]
                refine wpAnyH_ready (rs := [11]) (by kernel_rfl) (by simp) ?_
                refine AllReadyH.cons (o := _) (by simp only [List.getElem?_toArray, List.getElem?_cons_succ, List.getElem?_cons_zero]; rfl) (fun K hK => ?_) AllReadyH.nil
                go_simp
                go_at_call 13
                (with_reducible refine (GVH.out _ (HPW.out _ HX.out)).mono ?_)
                rintro e1 w5 ⟨rfl, rfl⟩
                dsimp only
                refine hK.out _ _ (HCP.out _ HX.out) (fun hHeld => ?_)
                clear hK K
                try simp only [Act.put, List.setIfInBounds_toArray, List.set_cons_zero, List.set_cons_succ]
                refine wpAnyH_take (i := 12) (oi := _) (v := ?v75026) (by simp only [List.getElem?_toArray, List.getElem?_cons_succ, List.getElem?_cons_zero]; rfl) (by kernel_rfl) (by kernel_rfl) (by kernel_rfl) (by exact fun _ _ _ h => h) (Or.inl ⟨by rfl, ?hy75026⟩) (by assumption) ?rest75026
                case hy75026 => (intro w hSw; (try dsimp only at hSw); go_simp; try with_reducible rfl)
                try simp only [Act.put, List.setIfInBounds_toArray, List.set_cons_zero, List.set_cons_succ]
                refine wpAnyH_ready (rs := [14]) (by kernel_rfl) (by simp) ?_
                refine AllReadyH.cons (o := _) (by simp only [List.getElem?_toArray, List.getElem?_cons_succ, List.getElem?_cons_zero]; rfl) (fun K hK => ?_) AllReadyH.nil
                go_simp
                refine hK.out _ _ (HCP.out _ (setK6_below HX.out (Nat.le_refl _) _ _ _ _ _ _)) (fun hHeld => ?_)
                clear hK K
                try simp only [Act.put, List.setIfInBounds_toArray, List.set_cons_zero, List.set_cons_succ]
                refine wpAnyH_done (by kernel_rfl) ?_ _
                go_wp2
                go_meet
                case rel => exact ⟨_, rfl, Lib.hid (gotA_at HX.out HXQ.out)⟩
            · go_simp
              obtain ⟨X, hX⟩ : ∃ X, (wc.alloc (.cells #[.string ⟨#[]⟩, .string ⟨#[]⟩, .string ⟨#[]⟩, .string ⟨#[]⟩, .string ⟨#[]⟩, .string ⟨#[]⟩] 33)).drew = X := ⟨_, rfl⟩
              have hx := ((Below.refl wc.heap.size wc).alloc (Nat.le_refl _) (.cells #[.string ⟨#[]⟩, .string ⟨#[]⟩, .string ⟨#[]⟩, .string ⟨#[]⟩, .string ⟨#[]⟩, .string ⟨#[]⟩] 33)).drew
              have hxq : (wc.alloc (.cells #[.string ⟨#[]⟩, .string ⟨#[]⟩, .string ⟨#[]⟩, .string ⟨#[]⟩, .string ⟨#[]⟩, .string ⟨#[]⟩] 33)).drew.heap[wc.heap.size]? = some (.cells #[.string ⟨#[]⟩, .string ⟨#[]⟩, .string ⟨#[]⟩, .string ⟨#[]⟩, .string ⟨#[]⟩, .string ⟨#[]⟩] 33 (0, 0)) := heap_alloc_last wc _
              rw [hX] at hx hxq ⊢
              have HX := Lib.hid hx; have HXQ := Lib.hid hxq
              obtain ⟨⟨r0, r1, r2, r3, r4, r5⟩, f0, f1, f2, f3, f4, f5⟩ := cellsK6_of hxq
              clear hX hx hxq
              refine hK.out _ _ (HCP.out _ HX.out) (fun hHeld => ?_)
              clear hK K
              try simp only [Act.put, List.setIfInBounds_toArray, List.set_cons_zero, List.set_cons_succ]
              refine wpAnyH_ready (rs := [5]) (by kernel_rfl) (by simp) ?_
              refine AllReadyH.cons (o := _) (by simp only [List.getElem?_toArray, List.getElem?_cons_succ, List.getElem?_cons_zero]; rfl) (fun K hK => ?_) AllReadyH.nil
              go_simp
              go_at_call 13
              (with_reducible refine (GVS.out _ (HPW.out _ HX.out)).mono ?_)
              rintro e1 w5 ⟨rfl, rfl⟩
              dsimp only
              refine hK.out _ _ (HCP.out _ HX.out) (fun hHeld => ?_)
              clear hK K
              try simp only [Act.put, List.setIfInBounds_toArray, List.set_cons_zero, List.set_cons_succ]
              refine wpAnyH_ready (rs := [7]) (by kernel_rfl) (by simp) ?_
              refine AllReadyH.cons (o := _) (by simp only [List.getElem?_toArray, List.getElem?_cons_succ, List.getElem?_cons_zero]; rfl) (fun K hK => ?_) AllReadyH.nil
              go_simp
              go_at_call 13
              (with_reducible refine (GVN.out _ (HPW.out _ HX.out)).mono ?_)
              rintro e1 w5 ⟨rfl, rfl⟩
              dsimp only
              refine hK.out _ _ (HCP.out _ HX.out) (fun hHeld => ?_)
              clear hK K
              try simp only [Act.put, List.setIfInBounds_toArray, List.set_cons_zero, List.set_cons_succ]
              refine wpAnyH_ready (rs := [9]) (by kernel_rfl) (by simp) ?_
              refine AllReadyH.cons (o := _) (by simp only [List.getElem?_toArray, List.getElem?_cons_succ, List.getElem?_cons_zero]; rfl) (fun K hK => ?_) AllReadyH.nil
              go_simp
              go_at_call 13
              (with_reducible refine (GVO.out _ (HPW.out _ HX.out)).mono ?_)
              rintro e1 w5 ⟨rfl, rfl⟩
              dsimp only
              refine hK.out _ _ (HCP.out _ HX.out) (fun hHeld => ?_)
              clear hK K
              try simp only [Act.put, List.setIfInBounds_toArray, List.set_cons_zero, List.set_cons_succ]
              refine wpAnyH_ready (rs := [11]) (by kernel_rfl) (by simp) ?_
              refine AllReadyH.cons (o := _) (by simp only [List.getElem?_toArray, List.getElem?_cons_succ, List.getElem?_cons_zero]; rfl) (fun K hK => ?_) AllReadyH.nil
              go_simp
              go_at_call 13
              (with_reducible refine (GVH.out _ (HPW.out _ HX.out)).mono ?_)
              rintro e1 w5 ⟨rfl, rfl⟩
              dsimp only
              refine hK.out _ _ (HCP.out _ HX.out) (fun hHeld => ?_)
              clear hK K
              try simp only [Act.put, List.setIfInBounds_toArray, List.set_cons_zero, List.set_cons_succ]
              refine wpAnyH_take (i := 12) (oi := _) (v := ?v75032) (by simp only [List.getElem?_toArray, List.getElem?_cons_succ, List.getElem?_cons_zero]; rfl) (by kernel_rfl) (by kernel_rfl) (by kernel_rfl) (by exact fun _ _ _ h => h) (Or.inl ⟨by rfl, ?hy75032⟩) (by assumption) ?rest75032
              case hy75032 => (intro w hSw; (try dsimp only at hSw); go_simp; try with_reducible rfl)
              try simp only [Act.put, List.setIfInBounds_toArray, List.set_cons_zero, List.set_cons_succ]
              refine wpAnyH_ready (rs := [14]) (by kernel_rfl) (by simp) ?_
              refine AllReadyH.cons (o := _) (by simp only [List.getElem?_toArray, List.getElem?_cons_succ, List.getElem?_cons_zero]; rfl) (fun K hK => ?_) AllReadyH.nil
              go_simp
              refine hK.out _ _ (HCP.out _ (setK6_below HX.out (Nat.le_refl _) _ _ _ _ _ _)) (fun hHeld => ?_)
              clear hK K
              try simp only [Act.put, List.setIfInBounds_toArray, List.set_cons_zero, List.set_cons_succ]
              refine wpAnyH_done (by kernel_rfl) ?_ _
              go_wp2
              go_meet
              case rel => exact ⟨_, rfl, Lib.hid (gotA_at HX.out HXQ.out)⟩
          · go_simp
            obtain ⟨X, hX⟩ : ∃ X, (wc.alloc (.cells #[.string ⟨#[]⟩, .string ⟨#[]⟩, .string ⟨#[]⟩, .string ⟨#[]⟩, .string ⟨#[]⟩, .string ⟨#[]⟩] 33)).drew = X := ⟨_, rfl⟩
            have hx := ((Below.refl wc.heap.size wc).alloc (Nat.le_refl _) (.cells #[.string ⟨#[]⟩, .string ⟨#[]⟩, .string ⟨#[]⟩, .string ⟨#[]⟩, .string ⟨#[]⟩, .string ⟨#[]⟩] 33)).drew
            have hxq : (wc.alloc (.cells #[.string ⟨#[]⟩, .string ⟨#[]⟩, .string ⟨#[]⟩, .string ⟨#[]⟩, .string ⟨#[]⟩, .string ⟨#[]⟩] 33)).drew.heap[wc.heap.size]? = some (.cells #[.string ⟨#[]⟩, .string ⟨#[]⟩, .string ⟨#[]⟩, .string ⟨#[]⟩, .string ⟨#[]⟩, .string ⟨#[]⟩] 33 (0, 0)) := heap_alloc_last wc _
            rw [hX] at hx hxq ⊢
            have HX := Lib.hid hx; have HXQ := Lib.hid hxq
            obtain ⟨⟨r0, r1, r2, r3, r4, r5⟩, f0, f1, f2, f3, f4, f5⟩ := cellsK6_of hxq
            clear hX hx hxq
            refine hK.out _ _ (HCP.out _ HX.out) (fun hHeld => ?_)
            clear hK K
            try simp only [Act.put, List.setIfInBounds_toArray, List.set_cons_zero, List.set_cons_succ]
            refine wpAnyH_ready (rs := [3]) (by kernel_rfl) (by simp) ?_
            refine AllReadyH.cons (o := _) (by simp only [List.getElem?_toArray, List.getElem?_cons_succ, List.getElem?_cons_zero]; rfl) (fun K hK => ?_) AllReadyH.nil
            go_simp
            go_at_call 13
            (with_reducible refine (GVR.out _ (HPW.out _ HX.out)).mono ?_)
            rintro e1 w5 ⟨rfl, rfl⟩
            dsimp only
            refine hK.out _ _ (HCP.out _ HX.out) (fun hHeld => ?_)
            clear hK K
            try simp only [Act.put, List.setIfInBounds_toArray, List.set_cons_zero, List.set_cons_succ]
            refine wpAnyH_ready (rs := [5]) (by kernel_rfl) (by simp) ?_
            refine AllReadyH.cons (o := _) (by simp only [List.getElem?_toArray, List.getElem?_cons_succ, List.getElem?_cons_zero]; rfl) (fun K hK => ?_) AllReadyH.nil
            go_simp
            go_at_call 13
            (with_reducible refine (GVS.out _ (HPW.out _ HX.out)).mono ?_)
            rintro e1 w5 ⟨rfl, rfl⟩
            dsimp only
            refine hK.out _ _ (HCP.out _ HX.out) (fun hHeld => ?_)
            clear hK K
            try simp only [Act.put, List.setIfInBounds_toArray, List.set_cons_zero, List.set_cons_succ]
            refine wpAnyH_ready (rs := [7]) (by kernel_rfl) (by simp) ?_
            refine AllReadyH.cons (o := _) (by simp only [List.getElem?_toArray, List.getElem?_cons_succ, List.getElem?_cons_zero]; rfl) (fun K hK => ?_) AllReadyH.nil
            go_simp
            go_at_call 13
            (with_reducible refine (GVN.out _ (HPW.out _ HX.out)).mono ?_)
            rintro e1 w5 ⟨rfl, rfl⟩
            dsimp only
            refine hK.out _ _ (HCP.out _ HX.out) (fun hHeld => ?_)
            clear hK K
            try simp only [Act.put, List.setIfInBounds_toArray, List.set_cons_zero, List.set_cons_succ]
            refine wpAnyH_ready (rs := [9]) (by kernel_rfl) (by simp) ?_
            refine AllReadyH.cons (o := _) (by simp only [List.getElem?_toArray, List.getElem?_cons_succ, List.getElem?_cons_zero]; rfl) (fun K hK => ?_) AllReadyH.nil
            go_simp
            go_at_call 13
            (with_reducible refine (GVO.out _ (HPW.out _ HX.out)).mono ?_)
            rintro e1 w5 ⟨rfl, rfl⟩
            dsimp only
            refine hK.out _ _ (HCP.out _ HX.out) (fun hHeld => ?_)
            clear hK K
            try simp only [Act.put, List.setIfInBounds_toArray, List.set_cons_zero, List.set_cons_succ]
            refine wpAnyH_ready (rs := [11]) (by kernel_rfl) (by simp) ?_
            refine AllReadyH.cons (o := _) (by simp only [List.getElem?_toArray, List.getElem?_cons_succ, List.getElem?_cons_zero]; rfl) (fun K hK => ?_) AllReadyH.nil
            go_simp
            go_at_call 13
            (with_reducible refine (GVH.out _ (HPW.out _ HX.out)).mono ?_)
            rintro e1 w5 ⟨rfl, rfl⟩
            dsimp only
            refine hK.out _ _ (HCP.out _ HX.out) (fun hHeld => ?_)
            clear hK K
            try simp only [Act.put, List.setIfInBounds_toArray, List.set_cons_zero, List.set_cons_succ]
            refine wpAnyH_take (i := 12) (oi := _) (v := ?v75039) (by simp only [List.getElem?_toArray, List.getElem?_cons_succ, List.getElem?_cons_zero]; rfl) (by kernel_rfl) (by kernel_rfl) (by kernel_rfl) (by exact fun _ _ _ h => h) (Or.inl ⟨by rfl, ?hy75039⟩) (by assumption) ?rest75039
            case hy75039 => (intro w hSw; (try dsimp only at hSw); go_simp; try with_reducible rfl)
            try simp only [Act.put, List.setIfInBounds_toArray, List.set_cons_zero, List.set_cons_succ]
            refine wpAnyH_ready (rs := [14]) (by kernel_rfl) (by simp) ?_
            refine AllReadyH.cons (o := _) (by simp only [List.getElem?_toArray, List.getElem?_cons_succ, List.getElem?_cons_zero]; rfl) (fun K hK => ?_) AllReadyH.nil
            go_simp
            refine hK.out _ _ (HCP.out _ (setK6_below HX.out (Nat.le_refl _) _ _ _ _ _ _)) (fun hHeld => ?_)
            clear hK K
            try simp only [Act.put, List.setIfInBounds_toArray, List.set_cons_zero, List.set_cons_succ]
            refine wpAnyH_done (by kernel_rfl) ?_ _
            go_wp2
            go_meet
            case rel => exact ⟨_, rfl, Lib.hid (gotA_at HX.out HXQ.out)⟩
        case rest =>
          obtain ⟨pa, rfl, HA⟩ := hcut
          obtain ⟨hA1, hA2, hA3⟩ := HA.out
          have B5 := Lib.hid (B4.out.chain hA1); have KA := Lib.hid hA3; have HPA := Lib.hid (show b + 1 < pa by have h1 := B4.out.size; have h2 := (Array.getElem?_eq_some_iff.1 K1.out).1; omega); have HLO := Lib.hid (show W0.heap.size ≤ pa from Nat.le_trans B4.out.size hA2)
          have HW2 := Lib.hid (fun W (hB : Below wc.heap.size wc W) => HPW.out W (hA1.chain hB)); have HRE5 := Lib.hid (HRE.out wc hA1); have HRT5 := Lib.hid (HRT.out.below hA1)
          obtain ⟨⟨m0, m1, m2⟩, -⟩ := cellsK3_of (blk_below KP.out hA1)
          obtain ⟨⟨r0, r1, r2, r3, r4, r5⟩, -⟩ := cellsK6_of hA3
          have hT := HTT2.out
          clear HA hA1 hA2 hA3 HRE HTT2 HRT
          cases rb with
          | false =>
            rw [if_pos rfl] at hT
            subst hT
            go_wp2_with fail
            refine HRE5.out.mono ?_
            rintro e w6 ⟨rfl, hb6⟩
            have B6 := Lib.hid (B5.out.chain hb6)
            clear hb6 m0 m1 m2 r0 r1 r2 r3 r4 r5
            obtain ⟨⟨y0, y1, y2, y3, y4, y5⟩, z0, z1, z2, z3, z4, z5⟩ := cellsK6_of (blk_below K1.out B6.out)
            dsimp only
            go_wp2_with fail
            obtain ⟨hbf, hyf⟩ := HFIN.out w6 (B6.out) (.string ⟨#[]⟩) (.string ⟨#[]⟩) (.string ⟨#[]⟩) (.string ⟨#[]⟩) (.string ⟨#[]⟩) (.string ⟨#[]⟩)
            obtain ⟨wf, hwf⟩ : ∃ wf, wf = setK6 w6 (b + 1) (.string ⟨#[]⟩) (.string ⟨#[]⟩) (.string ⟨#[]⟩) (.string ⟨#[]⟩) (.string ⟨#[]⟩) (.string ⟨#[]⟩) := ⟨_, rfl⟩
            change bodyPost _ _ _ _ _ (setK6 w6 (b + 1) (.string ⟨#[]⟩) (.string ⟨#[]⟩) (.string ⟨#[]⟩) (.string ⟨#[]⟩) (.string ⟨#[]⟩) (.string ⟨#[]⟩))
            rw [← hwf] at hbf hyf ⊢
            obtain ⟨⟨a0, a1, a2, a3, a4, a5⟩, -⟩ := cellsK6_of hyf
            have HBF := Lib.hid hbf
            clear hwf hbf hyf y0 y1 y2 y3 y4 y5 z0 z1 z2 z3 z4 z5
            refine bodyPost_ret (v := .tuple #[.agg #[.string ⟨#[]⟩, .string ⟨#[]⟩, .string ⟨#[]⟩, .string ⟨#[]⟩, .string ⟨#[]⟩, .string ⟨#[]⟩], .string ⟨#[105, 110, 118, 97, 108, 105, 100, 95, 114, 101, 113, 117, 101, 115, 116]⟩, .bool false]) (by simp [results, Tryd.results9, go_sem, a0, a1, a2, a3, a4, a5]) rfl ⟨?_, HBF.out⟩
            rfl
          | true =>
            rw [if_neg (by decide)] at hT
            go_wp2_with fail
            refine HRE5.out.mono ?_
            rintro e w6 ⟨rfl, hb6⟩
            have B6 := Lib.hid (B5.out.chain hb6); have KA6 := Lib.hid (blk_below KA.out hb6); have W26 := Lib.hid (fun W (hB : Below w6.heap.size w6 W) => HW2.out W (hb6.chain hB))
            clear hb6 m0 m1 m2 r0 r1 r2 r3 r4 r5 KA
            obtain ⟨⟨r0, r1, r2, r3, r4, r5⟩, -⟩ := cellsK6_of KA6.out
            have hsp := split_any VO 32 (by have := ZVO.out; omega) w6
            rw [DVO.out] at hsp
            obtain ⟨ws, hws⟩ : ∃ z, splitL 32 (gP l kSco) = z := ⟨_, rfl⟩
            have hwl : ws.length ≤ 5000 := by
              have h1 := splitL_len 32 (gP l kSco)
              have h2 := HGL.out kSco
              rw [hws] at h1; omega
            have hob : openB (gP l kSco) = decide (sOpen ∈ ws) := by unfold openB; rw [hws]
            rw [hws] at hsp
            have HSP := Lib.hid hsp; have HOB := Lib.hid hob
            clear hsp hws hob
            dsimp only
            go_wp2_with fail
            refine HSP.out.mono ?_
            rintro e w7 ⟨v7, rfl, hs7, hb7⟩
            have hr7 := hs7.rd
            obtain ⟨A7, c7, rfl⟩ := rdt_form hr7
            obtain ⟨nw, hnw⟩ : ∃ z, ws.length = z := ⟨_, rfl⟩
            rw [hnw] at hr7 hwl ⊢
            have B7 := Lib.hid (B6.out.chain hb7); have KA7 := Lib.hid (blk_below KA6.out hb7); have W27 := Lib.hid (fun W (hB : Below w7.heap.size w7 W) => W26.out W (hb7.chain hB)); have HR7 := Lib.hid hr7; have HNW := Lib.hid hnw
            clear hb7 hs7 hr7 hnw r0 r1 r2 r3 r4 r5 KA6 HSP
            obtain ⟨⟨r0, r1, r2, r3, r4, r5⟩, s0, s1, s2, s3, s4, s5⟩ := cellsK6_of KA7.out
            dsimp only
            go_wp2_with fail
            go_loop [12, 14] (fun ob i => ∃ k : Nat, k ≤ nw ∧ i = .int .i64 k ∧ ob = .bool (decide (sOpen ∈ ws.take k))) (fun _ i => nw - (intOf i).toNat)
            case atStart => exact ⟨0, Nat.zero_le _, rfl, rfl⟩
            case round =>
              obtain ⟨k, hk, rfl, rfl⟩ := hrel
              by_cases hkt : k < nw
              · have hkl : k < ws.length := by have := HNW.out; omega
                have hkr : decide ((k : Int) < nw) = true := by simp; omega
                have hk0 : (0 : Int) ≤ k := by omega
                have hk1 : (k : Int) < nw := by omega
                obtain ⟨g7, o7, rfl, hg7, d0⟩ := HR7.out.at k hkl
                obtain ⟨Y, hY⟩ : ∃ z : ByteArray, z = ⟨(ws[k]).toArray⟩ := ⟨_, rfl⟩
                rw [show tv ws[k] = .string Y by rw [hY]; rfl] at d0
                have hye : (Y.toList == [111, 112, 101, 110, 105, 100]) = decide (ws[k] = sOpen) := by
                  rw [ByteArray.toList_eq, hY]
                  by_cases e : ws[k] = sOpen
                  · rw [e]; decide
                  · rw [decide_eq_false e]; simpa [sOpen] using e
                have htk : ws.take (k + 1) = ws.take k ++ [ws[k]] := List.take_succ_eq_append_getElem hkl
                obtain ⟨ob, hobk⟩ : ∃ z, decide (sOpen ∈ ws.take k) = z := ⟨_, rfl⟩
                rw [hobk]
                cases ob with
                | true =>
                  have hnx : decide (sOpen ∈ ws.take (k + 1)) = true := by rw [decide_eq_true_eq] at hobk ⊢; rw [htk]; exact List.mem_append_left _ hobk
                  have NX := Lib.hid hnx
                  clear hobk hnx htk hye hY d0
                  go_wp2_with fail
                  exact ⟨⟨k + 1, by omega, by go_num, by rw [NX.out]⟩, by simp [intOf]; omega⟩
                | false =>
                  by_cases hhit : ws[k] = sOpen
                  · have hnx : decide (sOpen ∈ ws.take (k + 1)) = true := by rw [decide_eq_true_eq, htk, hhit]; simp
                    have NX := Lib.hid hnx
                    rw [decide_eq_true hhit] at hye
                    clear hobk hnx htk hY hhit
                    go_wp2_with fail
                    exact ⟨⟨k + 1, by omega, by go_num, by rw [NX.out]⟩, by simp [intOf]; omega⟩
                  · have hnx : decide (sOpen ∈ ws.take (k + 1)) = false := by
                      rw [decide_eq_false_iff_not] at hobk ⊢
                      rw [htk, List.mem_append, List.mem_singleton]
                      exact fun h => h.elim hobk (fun e => hhit e.symm)
                    have NX := Lib.hid hnx
                    rw [decide_eq_false hhit] at hye
                    clear hobk hnx htk hY hhit
                    go_wp2_with fail
                    exact ⟨⟨k + 1, by omega, by go_num, by rw [NX.out]⟩, by simp [intOf]; omega⟩
              · obtain rfl : k = nw := by omega
                have hkr : decide ((k : Int) < k) = false := by simp
                rw [show ws.take k = ws by rw [← HNW.out, List.take_length], ← HOB.out]
                obtain ⟨OB, hOB⟩ : ∃ z, openB (gP l kSco) = z := ⟨_, rfl⟩
                rw [hOB]
                have hvt : (!VT.toList == [99, 111, 100, 101]) = !decide (gP l kTyp = sCode) := by
                  rw [ByteArray.toList_eq, DVT.out]
                  by_cases e : gP l kTyp = sCode
                  · rw [e]; decide
                  · rw [decide_eq_false e]; simpa [sCode] using e
                have hvm : (!VM.toList == [83, 50, 53, 54]) = !decide (gP l kMet = sS256) := by
                  rw [ByteArray.toList_eq, DVM.out]
                  by_cases e : gP l kMet = sS256
                  · rw [e]; decide
                  · rw [decide_eq_false e]; simpa [sS256] using e
                have hgo := refGood_any VH (by have := ZVH.out; omega) w7
                rw [DVH.out] at hgo
                obtain ⟨gb, hgb⟩ : ∃ z, goodB (gP l kCha) = z := ⟨_, rfl⟩
                rw [hgb] at hgo
                have hwr : wrongP l = if gP l kTyp ≠ sCode then eTyp else if gP l kMet ≠ sS256 ∨ gb = false then eReq else if OB = false then eSco else if 256 < VS.size ∨ 256 < VN.size ∨ 256 < VO.size then eReq else [] := by
                  unfold wrongP; rw [hgb, hOB, LZVS.out, LZVN.out, LZVO.out]
                have hfew : (askFew l).val = .agg #[.string ID, .string VR, .string (if 256 < VS.size then ⟨#[]⟩ else VS), .string ⟨#[]⟩, .string ⟨#[]⟩, .string ⟨#[]⟩] := by
                  unfold askFew AskV.val tv
                  rw [← LZVS.out]
                  by_cases e : 256 < VS.size
                  · rw [if_pos e, if_pos e, EVC.out, EVR.out]
                  · rw [if_neg e, if_neg e, EVC.out, EVR.out, EVS.out]
                have hall : (askAll l).val = .agg #[.string ID, .string VR, .string VS, .string VN, .string VO, .string VH] := by
                  unfold askAll AskV.val tv
                  rw [EVC.out, EVR.out, EVS.out, EVN.out, EVO.out, EVH.out]
                have HGO := Lib.hid hgo; have HWR := Lib.hid hwr; have HFEW := Lib.hid hfew; have HALL := Lib.hid hall
                have hbe := (Below.refl w7.heap.size w7)
                have hne : pa ≠ b + 1 := by have := HPA.out; omega
                have HNE := Lib.hid hne
                clear hgo hwr hfew hall hOB hgb hne
                by_cases hlong : 256 < VS.size
                · skip
                  have tl : (256 : Int) < (VS.size : Int) := by omega
                  by_cases h1 : gP l kTyp = sCode
                  rotate_left
                  · rw [decide_eq_false h1] at hvt
                    have hwq : wrongP l = eTyp := by rw [HWR.out]; simp_all
                    rw [hwq, if_neg (by decide)] at hT
                    have hsy : AskSays T (.returned (.tuple #[.agg #[.string ID, .string VR, .string ⟨#[]⟩, .string ⟨#[]⟩, .string ⟨#[]⟩, .string ⟨#[]⟩], .string ⟨#[117, 110, 115, 117, 112, 112, 111, 114, 116, 101, 100, 95, 114, 101, 115, 112, 111, 110, 115, 101, 95, 116, 121, 112, 101]⟩, .bool true])) := by
                      rw [← hT]; unfold AskSays; rw [HFEW.out, if_pos hlong]; rfl
                    have HSY := Lib.hid hsy
                    clear hsy hwq hT
                    go_wp2_with fail
                    refine (GVT.out _ (W27.out _ hbe)).mono ?_
                    rintro e _ ⟨rfl, rfl⟩
                    dsimp only
                    go_upto_region 28 with fail
                    obtain ⟨w9, hw9⟩ : ∃ z, w7.setCell ⟨pa, 2, none⟩ (.string ⟨#[]⟩) = z := ⟨_, rfl⟩
                    rw [hw9]
                    have B9 := Lib.hid (show Below W0.heap.size W0 w9 by rw [← hw9]; exact B7.out.setCell (p := ⟨pa, 2, none⟩) HLO.out _)
                    have hk9 : w9.heap[pa]? = some (.cells #[.string ID, .string VR, .string ⟨#[]⟩, .string VN, .string VO, .string VH] 33 (0, 0)) := by rw [← hw9]; simpa using set_here (o := 2) KA7.out (.string ⟨#[]⟩)
                    clear hw9 r0 r1 r2 r3 r4 r5 s0 s1 s2 s3 s4 s5
                    obtain ⟨⟨r0, r1, r2, r3, r4, r5⟩, -⟩ := cellsK6_of hk9
                    obtain ⟨⟨y0, y1, y2, y3, y4, y5⟩, z0, z1, z2, z3, z4, z5⟩ := cellsK6_of (blk_below K1.out B9.out)
                    go_wp2_with fail
                    obtain ⟨hbf, hyf⟩ := HFIN.out w9 (B9.out) (.string ID) (.string VR) (.string ⟨#[]⟩) (.string ⟨#[]⟩) (.string ⟨#[]⟩) (.string ⟨#[]⟩)
                    obtain ⟨wf, hwf⟩ : ∃ wf, wf = setK6 w9 (b + 1) (.string ID) (.string VR) (.string ⟨#[]⟩) (.string ⟨#[]⟩) (.string ⟨#[]⟩) (.string ⟨#[]⟩) := ⟨_, rfl⟩
                    change bodyPost _ _ _ _ _ (setK6 w9 (b + 1) (.string ID) (.string VR) (.string ⟨#[]⟩) (.string ⟨#[]⟩) (.string ⟨#[]⟩) (.string ⟨#[]⟩))
                    rw [← hwf] at hbf hyf ⊢
                    obtain ⟨⟨a0, a1, a2, a3, a4, a5⟩, -⟩ := cellsK6_of hyf
                    have HBF := Lib.hid hbf
                    clear hwf hbf hyf y0 y1 y2 y3 y4 y5 z0 z1 z2 z3 z4 z5
                    refine bodyPost_ret (v := .tuple #[.agg #[.string ID, .string VR, .string ⟨#[]⟩, .string ⟨#[]⟩, .string ⟨#[]⟩, .string ⟨#[]⟩], .string ⟨#[117, 110, 115, 117, 112, 112, 111, 114, 116, 101, 100, 95, 114, 101, 115, 112, 111, 110, 115, 101, 95, 116, 121, 112, 101]⟩, .bool true]) (by simp [results, Tryd.results9, go_sem, a0, a1, a2, a3, a4, a5]) rfl ⟨?_, HBF.out⟩
                    exact HSY.out
                  rw [decide_eq_true h1] at hvt
                  by_cases h2 : gP l kMet = sS256
                  rotate_left
                  · rw [decide_eq_false h2] at hvm
                    have hwq : wrongP l = eReq := by rw [HWR.out]; simp_all
                    rw [hwq, if_neg (by decide)] at hT
                    have hsy : AskSays T (.returned (.tuple #[.agg #[.string ID, .string VR, .string ⟨#[]⟩, .string ⟨#[]⟩, .string ⟨#[]⟩, .string ⟨#[]⟩], .string ⟨#[105, 110, 118, 97, 108, 105, 100, 95, 114, 101, 113, 117, 101, 115, 116]⟩, .bool true])) := by
                      rw [← hT]; unfold AskSays; rw [HFEW.out, if_pos hlong]; rfl
                    have HSY := Lib.hid hsy
                    clear hsy hwq hT
                    go_wp2_with fail
                    refine (GVT.out _ (W27.out _ hbe)).mono ?_
                    rintro e _ ⟨rfl, rfl⟩
                    dsimp only
                    go_wp2_with fail
                    refine (GVM.out _ (W27.out _ hbe)).mono ?_
                    rintro e _ ⟨rfl, rfl⟩
                    dsimp only
                    go_upto_region 28 with fail
                    obtain ⟨w9, hw9⟩ : ∃ z, w7.setCell ⟨pa, 2, none⟩ (.string ⟨#[]⟩) = z := ⟨_, rfl⟩
                    rw [hw9]
                    have B9 := Lib.hid (show Below W0.heap.size W0 w9 by rw [← hw9]; exact B7.out.setCell (p := ⟨pa, 2, none⟩) HLO.out _)
                    have hk9 : w9.heap[pa]? = some (.cells #[.string ID, .string VR, .string ⟨#[]⟩, .string VN, .string VO, .string VH] 33 (0, 0)) := by rw [← hw9]; simpa using set_here (o := 2) KA7.out (.string ⟨#[]⟩)
                    clear hw9 r0 r1 r2 r3 r4 r5 s0 s1 s2 s3 s4 s5
                    obtain ⟨⟨r0, r1, r2, r3, r4, r5⟩, -⟩ := cellsK6_of hk9
                    obtain ⟨⟨y0, y1, y2, y3, y4, y5⟩, z0, z1, z2, z3, z4, z5⟩ := cellsK6_of (blk_below K1.out B9.out)
                    go_wp2_with fail
                    obtain ⟨hbf, hyf⟩ := HFIN.out w9 (B9.out) (.string ID) (.string VR) (.string ⟨#[]⟩) (.string ⟨#[]⟩) (.string ⟨#[]⟩) (.string ⟨#[]⟩)
                    obtain ⟨wf, hwf⟩ : ∃ wf, wf = setK6 w9 (b + 1) (.string ID) (.string VR) (.string ⟨#[]⟩) (.string ⟨#[]⟩) (.string ⟨#[]⟩) (.string ⟨#[]⟩) := ⟨_, rfl⟩
                    change bodyPost _ _ _ _ _ (setK6 w9 (b + 1) (.string ID) (.string VR) (.string ⟨#[]⟩) (.string ⟨#[]⟩) (.string ⟨#[]⟩) (.string ⟨#[]⟩))
                    rw [← hwf] at hbf hyf ⊢
                    obtain ⟨⟨a0, a1, a2, a3, a4, a5⟩, -⟩ := cellsK6_of hyf
                    have HBF := Lib.hid hbf
                    clear hwf hbf hyf y0 y1 y2 y3 y4 y5 z0 z1 z2 z3 z4 z5
                    refine bodyPost_ret (v := .tuple #[.agg #[.string ID, .string VR, .string ⟨#[]⟩, .string ⟨#[]⟩, .string ⟨#[]⟩, .string ⟨#[]⟩], .string ⟨#[105, 110, 118, 97, 108, 105, 100, 95, 114, 101, 113, 117, 101, 115, 116]⟩, .bool true]) (by simp [results, Tryd.results9, go_sem, a0, a1, a2, a3, a4, a5]) rfl ⟨?_, HBF.out⟩
                    exact HSY.out
                  rw [decide_eq_true h2] at hvm
                  cases gb with
                  | false =>
                    have hwq : wrongP l = eReq := by rw [HWR.out]; simp_all
                    rw [hwq, if_neg (by decide)] at hT
                    have hsy : AskSays T (.returned (.tuple #[.agg #[.string ID, .string VR, .string ⟨#[]⟩, .string ⟨#[]⟩, .string ⟨#[]⟩, .string ⟨#[]⟩], .string ⟨#[105, 110, 118, 97, 108, 105, 100, 95, 114, 101, 113, 117, 101, 115, 116]⟩, .bool true])) := by
                      rw [← hT]; unfold AskSays; rw [HFEW.out, if_pos hlong]; rfl
                    have HSY := Lib.hid hsy
                    clear hsy hwq hT
                    go_wp2_with fail
                    refine (GVT.out _ (W27.out _ hbe)).mono ?_
                    rintro e _ ⟨rfl, rfl⟩
                    dsimp only
                    go_wp2_with fail
                    refine (GVM.out _ (W27.out _ hbe)).mono ?_
                    rintro e _ ⟨rfl, rfl⟩
                    dsimp only
                    go_wp2_with fail
                    refine HGO.out.mono ?_
                    rintro e w8 ⟨rfl, hb8⟩
                    have B8 := Lib.hid (B7.out.chain hb8); have KA8 := Lib.hid (blk_below KA7.out hb8)
                    clear hb8 r0 r1 r2 r3 r4 r5 s0 s1 s2 s3 s4 s5
                    obtain ⟨⟨r0, r1, r2, r3, r4, r5⟩, s0, s1, s2, s3, s4, s5⟩ := cellsK6_of KA8.out
                    dsimp only
                    go_upto_region 28 with fail
                    obtain ⟨w9, hw9⟩ : ∃ z, w8.setCell ⟨pa, 2, none⟩ (.string ⟨#[]⟩) = z := ⟨_, rfl⟩
                    rw [hw9]
                    have B9 := Lib.hid (show Below W0.heap.size W0 w9 by rw [← hw9]; exact B8.out.setCell (p := ⟨pa, 2, none⟩) HLO.out _)
                    have hk9 : w9.heap[pa]? = some (.cells #[.string ID, .string VR, .string ⟨#[]⟩, .string VN, .string VO, .string VH] 33 (0, 0)) := by rw [← hw9]; simpa using set_here (o := 2) KA8.out (.string ⟨#[]⟩)
                    clear hw9 r0 r1 r2 r3 r4 r5 s0 s1 s2 s3 s4 s5
                    obtain ⟨⟨r0, r1, r2, r3, r4, r5⟩, -⟩ := cellsK6_of hk9
                    obtain ⟨⟨y0, y1, y2, y3, y4, y5⟩, z0, z1, z2, z3, z4, z5⟩ := cellsK6_of (blk_below K1.out B9.out)
                    go_wp2_with fail
                    obtain ⟨hbf, hyf⟩ := HFIN.out w9 (B9.out) (.string ID) (.string VR) (.string ⟨#[]⟩) (.string ⟨#[]⟩) (.string ⟨#[]⟩) (.string ⟨#[]⟩)
                    obtain ⟨wf, hwf⟩ : ∃ wf, wf = setK6 w9 (b + 1) (.string ID) (.string VR) (.string ⟨#[]⟩) (.string ⟨#[]⟩) (.string ⟨#[]⟩) (.string ⟨#[]⟩) := ⟨_, rfl⟩
                    change bodyPost _ _ _ _ _ (setK6 w9 (b + 1) (.string ID) (.string VR) (.string ⟨#[]⟩) (.string ⟨#[]⟩) (.string ⟨#[]⟩) (.string ⟨#[]⟩))
                    rw [← hwf] at hbf hyf ⊢
                    obtain ⟨⟨a0, a1, a2, a3, a4, a5⟩, -⟩ := cellsK6_of hyf
                    have HBF := Lib.hid hbf
                    clear hwf hbf hyf y0 y1 y2 y3 y4 y5 z0 z1 z2 z3 z4 z5
                    refine bodyPost_ret (v := .tuple #[.agg #[.string ID, .string VR, .string ⟨#[]⟩, .string ⟨#[]⟩, .string ⟨#[]⟩, .string ⟨#[]⟩], .string ⟨#[105, 110, 118, 97, 108, 105, 100, 95, 114, 101, 113, 117, 101, 115, 116]⟩, .bool true]) (by simp [results, Tryd.results9, go_sem, a0, a1, a2, a3, a4, a5]) rfl ⟨?_, HBF.out⟩
                    exact HSY.out
                  | true =>
                    cases OB with
                    | false =>
                      have hwq : wrongP l = eSco := by rw [HWR.out]; simp_all
                      rw [hwq, if_neg (by decide)] at hT
                      have hsy : AskSays T (.returned (.tuple #[.agg #[.string ID, .string VR, .string ⟨#[]⟩, .string ⟨#[]⟩, .string ⟨#[]⟩, .string ⟨#[]⟩], .string ⟨#[105, 110, 118, 97, 108, 105, 100, 95, 115, 99, 111, 112, 101]⟩, .bool true])) := by
                        rw [← hT]; unfold AskSays; rw [HFEW.out, if_pos hlong]; rfl
                      have HSY := Lib.hid hsy
                      clear hsy hwq hT
                      go_wp2_with fail
                      refine (GVT.out _ (W27.out _ hbe)).mono ?_
                      rintro e _ ⟨rfl, rfl⟩
                      dsimp only
                      go_wp2_with fail
                      refine (GVM.out _ (W27.out _ hbe)).mono ?_
                      rintro e _ ⟨rfl, rfl⟩
                      dsimp only
                      go_wp2_with fail
                      refine HGO.out.mono ?_
                      rintro e w8 ⟨rfl, hb8⟩
                      have B8 := Lib.hid (B7.out.chain hb8); have KA8 := Lib.hid (blk_below KA7.out hb8)
                      clear hb8 r0 r1 r2 r3 r4 r5 s0 s1 s2 s3 s4 s5
                      obtain ⟨⟨r0, r1, r2, r3, r4, r5⟩, s0, s1, s2, s3, s4, s5⟩ := cellsK6_of KA8.out
                      dsimp only
                      go_upto_region 28 with fail
                      obtain ⟨w9, hw9⟩ : ∃ z, w8.setCell ⟨pa, 2, none⟩ (.string ⟨#[]⟩) = z := ⟨_, rfl⟩
                      rw [hw9]
                      have B9 := Lib.hid (show Below W0.heap.size W0 w9 by rw [← hw9]; exact B8.out.setCell (p := ⟨pa, 2, none⟩) HLO.out _)
                      have hk9 : w9.heap[pa]? = some (.cells #[.string ID, .string VR, .string ⟨#[]⟩, .string VN, .string VO, .string VH] 33 (0, 0)) := by rw [← hw9]; simpa using set_here (o := 2) KA8.out (.string ⟨#[]⟩)
                      clear hw9 r0 r1 r2 r3 r4 r5 s0 s1 s2 s3 s4 s5
                      obtain ⟨⟨r0, r1, r2, r3, r4, r5⟩, -⟩ := cellsK6_of hk9
                      obtain ⟨⟨y0, y1, y2, y3, y4, y5⟩, z0, z1, z2, z3, z4, z5⟩ := cellsK6_of (blk_below K1.out B9.out)
                      go_wp2_with fail
                      obtain ⟨hbf, hyf⟩ := HFIN.out w9 (B9.out) (.string ID) (.string VR) (.string ⟨#[]⟩) (.string ⟨#[]⟩) (.string ⟨#[]⟩) (.string ⟨#[]⟩)
                      obtain ⟨wf, hwf⟩ : ∃ wf, wf = setK6 w9 (b + 1) (.string ID) (.string VR) (.string ⟨#[]⟩) (.string ⟨#[]⟩) (.string ⟨#[]⟩) (.string ⟨#[]⟩) := ⟨_, rfl⟩
                      change bodyPost _ _ _ _ _ (setK6 w9 (b + 1) (.string ID) (.string VR) (.string ⟨#[]⟩) (.string ⟨#[]⟩) (.string ⟨#[]⟩) (.string ⟨#[]⟩))
                      rw [← hwf] at hbf hyf ⊢
                      obtain ⟨⟨a0, a1, a2, a3, a4, a5⟩, -⟩ := cellsK6_of hyf
                      have HBF := Lib.hid hbf
                      clear hwf hbf hyf y0 y1 y2 y3 y4 y5 z0 z1 z2 z3 z4 z5
                      refine bodyPost_ret (v := .tuple #[.agg #[.string ID, .string VR, .string ⟨#[]⟩, .string ⟨#[]⟩, .string ⟨#[]⟩, .string ⟨#[]⟩], .string ⟨#[105, 110, 118, 97, 108, 105, 100, 95, 115, 99, 111, 112, 101]⟩, .bool true]) (by simp [results, Tryd.results9, go_sem, a0, a1, a2, a3, a4, a5]) rfl ⟨?_, HBF.out⟩
                      exact HSY.out
                    | true =>
                      have hwq : wrongP l = eReq := by rw [HWR.out]; simp_all
                      rw [hwq, if_neg (by decide)] at hT
                      have hsy : AskSays T (.returned (.tuple #[.agg #[.string ID, .string VR, .string ⟨#[]⟩, .string ⟨#[]⟩, .string ⟨#[]⟩, .string ⟨#[]⟩], .string ⟨#[105, 110, 118, 97, 108, 105, 100, 95, 114, 101, 113, 117, 101, 115, 116]⟩, .bool true])) := by
                        rw [← hT]; unfold AskSays; rw [HFEW.out, if_pos hlong]; rfl
                      have HSY := Lib.hid hsy
                      clear hsy hwq hT
                      go_wp2_with fail
                      refine (GVT.out _ (W27.out _ hbe)).mono ?_
                      rintro e _ ⟨rfl, rfl⟩
                      dsimp only
                      go_wp2_with fail
                      refine (GVM.out _ (W27.out _ hbe)).mono ?_
                      rintro e _ ⟨rfl, rfl⟩
                      dsimp only
                      go_wp2_with fail
                      refine HGO.out.mono ?_
                      rintro e w8 ⟨rfl, hb8⟩
                      have B8 := Lib.hid (B7.out.chain hb8); have KA8 := Lib.hid (blk_below KA7.out hb8)
                      clear hb8 r0 r1 r2 r3 r4 r5 s0 s1 s2 s3 s4 s5
                      obtain ⟨⟨r0, r1, r2, r3, r4, r5⟩, s0, s1, s2, s3, s4, s5⟩ := cellsK6_of KA8.out
                      dsimp only
                      go_upto_region 28 with fail
                      obtain ⟨w9, hw9⟩ : ∃ z, w8.setCell ⟨pa, 2, none⟩ (.string ⟨#[]⟩) = z := ⟨_, rfl⟩
                      rw [hw9]
                      have B9 := Lib.hid (show Below W0.heap.size W0 w9 by rw [← hw9]; exact B8.out.setCell (p := ⟨pa, 2, none⟩) HLO.out _)
                      have hk9 : w9.heap[pa]? = some (.cells #[.string ID, .string VR, .string ⟨#[]⟩, .string VN, .string VO, .string VH] 33 (0, 0)) := by rw [← hw9]; simpa using set_here (o := 2) KA8.out (.string ⟨#[]⟩)
                      clear hw9 r0 r1 r2 r3 r4 r5 s0 s1 s2 s3 s4 s5
                      obtain ⟨⟨r0, r1, r2, r3, r4, r5⟩, -⟩ := cellsK6_of hk9
                      obtain ⟨⟨y0, y1, y2, y3, y4, y5⟩, z0, z1, z2, z3, z4, z5⟩ := cellsK6_of (blk_below K1.out B9.out)
                      go_wp2_with fail
                      obtain ⟨hbf, hyf⟩ := HFIN.out w9 (B9.out) (.string ID) (.string VR) (.string ⟨#[]⟩) (.string ⟨#[]⟩) (.string ⟨#[]⟩) (.string ⟨#[]⟩)
                      obtain ⟨wf, hwf⟩ : ∃ wf, wf = setK6 w9 (b + 1) (.string ID) (.string VR) (.string ⟨#[]⟩) (.string ⟨#[]⟩) (.string ⟨#[]⟩) (.string ⟨#[]⟩) := ⟨_, rfl⟩
                      change bodyPost _ _ _ _ _ (setK6 w9 (b + 1) (.string ID) (.string VR) (.string ⟨#[]⟩) (.string ⟨#[]⟩) (.string ⟨#[]⟩) (.string ⟨#[]⟩))
                      rw [← hwf] at hbf hyf ⊢
                      obtain ⟨⟨a0, a1, a2, a3, a4, a5⟩, -⟩ := cellsK6_of hyf
                      have HBF := Lib.hid hbf
                      clear hwf hbf hyf y0 y1 y2 y3 y4 y5 z0 z1 z2 z3 z4 z5
                      refine bodyPost_ret (v := .tuple #[.agg #[.string ID, .string VR, .string ⟨#[]⟩, .string ⟨#[]⟩, .string ⟨#[]⟩, .string ⟨#[]⟩], .string ⟨#[105, 110, 118, 97, 108, 105, 100, 95, 114, 101, 113, 117, 101, 115, 116]⟩, .bool true]) (by simp [results, Tryd.results9, go_sem, a0, a1, a2, a3, a4, a5]) rfl ⟨?_, HBF.out⟩
                      exact HSY.out
                · skip
                  have tl : ¬ (256 : Int) < (VS.size : Int) := by omega
                  by_cases h1 : gP l kTyp = sCode
                  rotate_left
                  · rw [decide_eq_false h1] at hvt
                    have hwq : wrongP l = eTyp := by rw [HWR.out]; simp_all
                    rw [hwq, if_neg (by decide)] at hT
                    have hsy : AskSays T (.returned (.tuple #[.agg #[.string ID, .string VR, .string VS, .string ⟨#[]⟩, .string ⟨#[]⟩, .string ⟨#[]⟩], .string ⟨#[117, 110, 115, 117, 112, 112, 111, 114, 116, 101, 100, 95, 114, 101, 115, 112, 111, 110, 115, 101, 95, 116, 121, 112, 101]⟩, .bool true])) := by
                      rw [← hT]; unfold AskSays; rw [HFEW.out, if_neg hlong]; rfl
                    have HSY := Lib.hid hsy
                    clear hsy hwq hT
                    go_wp2_with fail
                    refine (GVT.out _ (W27.out _ hbe)).mono ?_
                    rintro e _ ⟨rfl, rfl⟩
                    dsimp only
                    obtain ⟨⟨y0, y1, y2, y3, y4, y5⟩, z0, z1, z2, z3, z4, z5⟩ := cellsK6_of (blk_below K1.out B7.out)
                    go_wp2_with fail
                    obtain ⟨hbf, hyf⟩ := HFIN.out w7 (B7.out) (.string ID) (.string VR) (.string VS) (.string ⟨#[]⟩) (.string ⟨#[]⟩) (.string ⟨#[]⟩)
                    obtain ⟨wf, hwf⟩ : ∃ wf, wf = setK6 w7 (b + 1) (.string ID) (.string VR) (.string VS) (.string ⟨#[]⟩) (.string ⟨#[]⟩) (.string ⟨#[]⟩) := ⟨_, rfl⟩
                    change bodyPost _ _ _ _ _ (setK6 w7 (b + 1) (.string ID) (.string VR) (.string VS) (.string ⟨#[]⟩) (.string ⟨#[]⟩) (.string ⟨#[]⟩))
                    rw [← hwf] at hbf hyf ⊢
                    obtain ⟨⟨a0, a1, a2, a3, a4, a5⟩, -⟩ := cellsK6_of hyf
                    have HBF := Lib.hid hbf
                    clear hwf hbf hyf y0 y1 y2 y3 y4 y5 z0 z1 z2 z3 z4 z5
                    refine bodyPost_ret (v := .tuple #[.agg #[.string ID, .string VR, .string VS, .string ⟨#[]⟩, .string ⟨#[]⟩, .string ⟨#[]⟩], .string ⟨#[117, 110, 115, 117, 112, 112, 111, 114, 116, 101, 100, 95, 114, 101, 115, 112, 111, 110, 115, 101, 95, 116, 121, 112, 101]⟩, .bool true]) (by simp [results, Tryd.results9, go_sem, a0, a1, a2, a3, a4, a5]) rfl ⟨?_, HBF.out⟩
                    exact HSY.out
                  rw [decide_eq_true h1] at hvt
                  by_cases h2 : gP l kMet = sS256
                  rotate_left
                  · rw [decide_eq_false h2] at hvm
                    have hwq : wrongP l = eReq := by rw [HWR.out]; simp_all
                    rw [hwq, if_neg (by decide)] at hT
                    have hsy : AskSays T (.returned (.tuple #[.agg #[.string ID, .string VR, .string VS, .string ⟨#[]⟩, .string ⟨#[]⟩, .string ⟨#[]⟩], .string ⟨#[105, 110, 118, 97, 108, 105, 100, 95, 114, 101, 113, 117, 101, 115, 116]⟩, .bool true])) := by
                      rw [← hT]; unfold AskSays; rw [HFEW.out, if_neg hlong]; rfl
                    have HSY := Lib.hid hsy
                    clear hsy hwq hT
                    go_wp2_with fail
                    refine (GVT.out _ (W27.out _ hbe)).mono ?_
                    rintro e _ ⟨rfl, rfl⟩
                    dsimp only
                    go_wp2_with fail
                    refine (GVM.out _ (W27.out _ hbe)).mono ?_
                    rintro e _ ⟨rfl, rfl⟩
                    dsimp only
                    obtain ⟨⟨y0, y1, y2, y3, y4, y5⟩, z0, z1, z2, z3, z4, z5⟩ := cellsK6_of (blk_below K1.out B7.out)
                    go_wp2_with fail
                    obtain ⟨hbf, hyf⟩ := HFIN.out w7 (B7.out) (.string ID) (.string VR) (.string VS) (.string ⟨#[]⟩) (.string ⟨#[]⟩) (.string ⟨#[]⟩)
                    obtain ⟨wf, hwf⟩ : ∃ wf, wf = setK6 w7 (b + 1) (.string ID) (.string VR) (.string VS) (.string ⟨#[]⟩) (.string ⟨#[]⟩) (.string ⟨#[]⟩) := ⟨_, rfl⟩
                    change bodyPost _ _ _ _ _ (setK6 w7 (b + 1) (.string ID) (.string VR) (.string VS) (.string ⟨#[]⟩) (.string ⟨#[]⟩) (.string ⟨#[]⟩))
                    rw [← hwf] at hbf hyf ⊢
                    obtain ⟨⟨a0, a1, a2, a3, a4, a5⟩, -⟩ := cellsK6_of hyf
                    have HBF := Lib.hid hbf
                    clear hwf hbf hyf y0 y1 y2 y3 y4 y5 z0 z1 z2 z3 z4 z5
                    refine bodyPost_ret (v := .tuple #[.agg #[.string ID, .string VR, .string VS, .string ⟨#[]⟩, .string ⟨#[]⟩, .string ⟨#[]⟩], .string ⟨#[105, 110, 118, 97, 108, 105, 100, 95, 114, 101, 113, 117, 101, 115, 116]⟩, .bool true]) (by simp [results, Tryd.results9, go_sem, a0, a1, a2, a3, a4, a5]) rfl ⟨?_, HBF.out⟩
                    exact HSY.out
                  rw [decide_eq_true h2] at hvm
                  cases gb with
                  | false =>
                    have hwq : wrongP l = eReq := by rw [HWR.out]; simp_all
                    rw [hwq, if_neg (by decide)] at hT
                    have hsy : AskSays T (.returned (.tuple #[.agg #[.string ID, .string VR, .string VS, .string ⟨#[]⟩, .string ⟨#[]⟩, .string ⟨#[]⟩], .string ⟨#[105, 110, 118, 97, 108, 105, 100, 95, 114, 101, 113, 117, 101, 115, 116]⟩, .bool true])) := by
                      rw [← hT]; unfold AskSays; rw [HFEW.out, if_neg hlong]; rfl
                    have HSY := Lib.hid hsy
                    clear hsy hwq hT
                    go_wp2_with fail
                    refine (GVT.out _ (W27.out _ hbe)).mono ?_
                    rintro e _ ⟨rfl, rfl⟩
                    dsimp only
                    go_wp2_with fail
                    refine (GVM.out _ (W27.out _ hbe)).mono ?_
                    rintro e _ ⟨rfl, rfl⟩
                    dsimp only
                    go_wp2_with fail
                    refine HGO.out.mono ?_
                    rintro e w8 ⟨rfl, hb8⟩
                    have B8 := Lib.hid (B7.out.chain hb8); have KA8 := Lib.hid (blk_below KA7.out hb8)
                    clear hb8 r0 r1 r2 r3 r4 r5 s0 s1 s2 s3 s4 s5
                    obtain ⟨⟨r0, r1, r2, r3, r4, r5⟩, s0, s1, s2, s3, s4, s5⟩ := cellsK6_of KA8.out
                    dsimp only
                    obtain ⟨⟨y0, y1, y2, y3, y4, y5⟩, z0, z1, z2, z3, z4, z5⟩ := cellsK6_of (blk_below K1.out B8.out)
                    go_wp2_with fail
                    obtain ⟨hbf, hyf⟩ := HFIN.out w8 (B8.out) (.string ID) (.string VR) (.string VS) (.string ⟨#[]⟩) (.string ⟨#[]⟩) (.string ⟨#[]⟩)
                    obtain ⟨wf, hwf⟩ : ∃ wf, wf = setK6 w8 (b + 1) (.string ID) (.string VR) (.string VS) (.string ⟨#[]⟩) (.string ⟨#[]⟩) (.string ⟨#[]⟩) := ⟨_, rfl⟩
                    change bodyPost _ _ _ _ _ (setK6 w8 (b + 1) (.string ID) (.string VR) (.string VS) (.string ⟨#[]⟩) (.string ⟨#[]⟩) (.string ⟨#[]⟩))
                    rw [← hwf] at hbf hyf ⊢
                    obtain ⟨⟨a0, a1, a2, a3, a4, a5⟩, -⟩ := cellsK6_of hyf
                    have HBF := Lib.hid hbf
                    clear hwf hbf hyf y0 y1 y2 y3 y4 y5 z0 z1 z2 z3 z4 z5
                    refine bodyPost_ret (v := .tuple #[.agg #[.string ID, .string VR, .string VS, .string ⟨#[]⟩, .string ⟨#[]⟩, .string ⟨#[]⟩], .string ⟨#[105, 110, 118, 97, 108, 105, 100, 95, 114, 101, 113, 117, 101, 115, 116]⟩, .bool true]) (by simp [results, Tryd.results9, go_sem, a0, a1, a2, a3, a4, a5]) rfl ⟨?_, HBF.out⟩
                    exact HSY.out
                  | true =>
                    cases OB with
                    | false =>
                      have hwq : wrongP l = eSco := by rw [HWR.out]; simp_all
                      rw [hwq, if_neg (by decide)] at hT
                      have hsy : AskSays T (.returned (.tuple #[.agg #[.string ID, .string VR, .string VS, .string ⟨#[]⟩, .string ⟨#[]⟩, .string ⟨#[]⟩], .string ⟨#[105, 110, 118, 97, 108, 105, 100, 95, 115, 99, 111, 112, 101]⟩, .bool true])) := by
                        rw [← hT]; unfold AskSays; rw [HFEW.out, if_neg hlong]; rfl
                      have HSY := Lib.hid hsy
                      clear hsy hwq hT
                      go_wp2_with fail
                      refine (GVT.out _ (W27.out _ hbe)).mono ?_
                      rintro e _ ⟨rfl, rfl⟩
                      dsimp only
                      go_wp2_with fail
                      refine (GVM.out _ (W27.out _ hbe)).mono ?_
                      rintro e _ ⟨rfl, rfl⟩
                      dsimp only
                      go_wp2_with fail
                      refine HGO.out.mono ?_
                      rintro e w8 ⟨rfl, hb8⟩
                      have B8 := Lib.hid (B7.out.chain hb8); have KA8 := Lib.hid (blk_below KA7.out hb8)
                      clear hb8 r0 r1 r2 r3 r4 r5 s0 s1 s2 s3 s4 s5
                      obtain ⟨⟨r0, r1, r2, r3, r4, r5⟩, s0, s1, s2, s3, s4, s5⟩ := cellsK6_of KA8.out
                      dsimp only
                      obtain ⟨⟨y0, y1, y2, y3, y4, y5⟩, z0, z1, z2, z3, z4, z5⟩ := cellsK6_of (blk_below K1.out B8.out)
                      go_wp2_with fail
                      obtain ⟨hbf, hyf⟩ := HFIN.out w8 (B8.out) (.string ID) (.string VR) (.string VS) (.string ⟨#[]⟩) (.string ⟨#[]⟩) (.string ⟨#[]⟩)
                      obtain ⟨wf, hwf⟩ : ∃ wf, wf = setK6 w8 (b + 1) (.string ID) (.string VR) (.string VS) (.string ⟨#[]⟩) (.string ⟨#[]⟩) (.string ⟨#[]⟩) := ⟨_, rfl⟩
                      change bodyPost _ _ _ _ _ (setK6 w8 (b + 1) (.string ID) (.string VR) (.string VS) (.string ⟨#[]⟩) (.string ⟨#[]⟩) (.string ⟨#[]⟩))
                      rw [← hwf] at hbf hyf ⊢
                      obtain ⟨⟨a0, a1, a2, a3, a4, a5⟩, -⟩ := cellsK6_of hyf
                      have HBF := Lib.hid hbf
                      clear hwf hbf hyf y0 y1 y2 y3 y4 y5 z0 z1 z2 z3 z4 z5
                      refine bodyPost_ret (v := .tuple #[.agg #[.string ID, .string VR, .string VS, .string ⟨#[]⟩, .string ⟨#[]⟩, .string ⟨#[]⟩], .string ⟨#[105, 110, 118, 97, 108, 105, 100, 95, 115, 99, 111, 112, 101]⟩, .bool true]) (by simp [results, Tryd.results9, go_sem, a0, a1, a2, a3, a4, a5]) rfl ⟨?_, HBF.out⟩
                      exact HSY.out
                    | true =>
                      by_cases h5 : 256 < VN.size
                      · have t5 : (256 : Int) < (VN.size : Int) := by omega
                        have hwq : wrongP l = eReq := by rw [HWR.out]; simp_all
                        rw [hwq, if_neg (by decide)] at hT
                        have hsy : AskSays T (.returned (.tuple #[.agg #[.string ID, .string VR, .string VS, .string ⟨#[]⟩, .string ⟨#[]⟩, .string ⟨#[]⟩], .string ⟨#[105, 110, 118, 97, 108, 105, 100, 95, 114, 101, 113, 117, 101, 115, 116]⟩, .bool true])) := by
                          rw [← hT]; unfold AskSays; rw [HFEW.out, if_neg hlong]; rfl
                        have HSY := Lib.hid hsy
                        clear hsy hwq hT
                        go_wp2_with fail
                        refine (GVT.out _ (W27.out _ hbe)).mono ?_
                        rintro e _ ⟨rfl, rfl⟩
                        dsimp only
                        go_wp2_with fail
                        refine (GVM.out _ (W27.out _ hbe)).mono ?_
                        rintro e _ ⟨rfl, rfl⟩
                        dsimp only
                        go_wp2_with fail
                        refine HGO.out.mono ?_
                        rintro e w8 ⟨rfl, hb8⟩
                        have B8 := Lib.hid (B7.out.chain hb8); have KA8 := Lib.hid (blk_below KA7.out hb8)
                        clear hb8 r0 r1 r2 r3 r4 r5 s0 s1 s2 s3 s4 s5
                        obtain ⟨⟨r0, r1, r2, r3, r4, r5⟩, s0, s1, s2, s3, s4, s5⟩ := cellsK6_of KA8.out
                        dsimp only
                        obtain ⟨⟨y0, y1, y2, y3, y4, y5⟩, z0, z1, z2, z3, z4, z5⟩ := cellsK6_of (blk_below K1.out B8.out)
                        go_wp2_with fail
                        obtain ⟨hbf, hyf⟩ := HFIN.out w8 (B8.out) (.string ID) (.string VR) (.string VS) (.string ⟨#[]⟩) (.string ⟨#[]⟩) (.string ⟨#[]⟩)
                        obtain ⟨wf, hwf⟩ : ∃ wf, wf = setK6 w8 (b + 1) (.string ID) (.string VR) (.string VS) (.string ⟨#[]⟩) (.string ⟨#[]⟩) (.string ⟨#[]⟩) := ⟨_, rfl⟩
                        change bodyPost _ _ _ _ _ (setK6 w8 (b + 1) (.string ID) (.string VR) (.string VS) (.string ⟨#[]⟩) (.string ⟨#[]⟩) (.string ⟨#[]⟩))
                        rw [← hwf] at hbf hyf ⊢
                        obtain ⟨⟨a0, a1, a2, a3, a4, a5⟩, -⟩ := cellsK6_of hyf
                        have HBF := Lib.hid hbf
                        clear hwf hbf hyf y0 y1 y2 y3 y4 y5 z0 z1 z2 z3 z4 z5
                        refine bodyPost_ret (v := .tuple #[.agg #[.string ID, .string VR, .string VS, .string ⟨#[]⟩, .string ⟨#[]⟩, .string ⟨#[]⟩], .string ⟨#[105, 110, 118, 97, 108, 105, 100, 95, 114, 101, 113, 117, 101, 115, 116]⟩, .bool true]) (by simp [results, Tryd.results9, go_sem, a0, a1, a2, a3, a4, a5]) rfl ⟨?_, HBF.out⟩
                        exact HSY.out
                      have t5 : ¬ (256 : Int) < (VN.size : Int) := by omega
                      by_cases h6 : 256 < VO.size
                      · have t6 : (256 : Int) < (VO.size : Int) := by omega
                        have hwq : wrongP l = eReq := by rw [HWR.out]; simp_all
                        rw [hwq, if_neg (by decide)] at hT
                        have hsy : AskSays T (.returned (.tuple #[.agg #[.string ID, .string VR, .string VS, .string ⟨#[]⟩, .string ⟨#[]⟩, .string ⟨#[]⟩], .string ⟨#[105, 110, 118, 97, 108, 105, 100, 95, 114, 101, 113, 117, 101, 115, 116]⟩, .bool true])) := by
                          rw [← hT]; unfold AskSays; rw [HFEW.out, if_neg hlong]; rfl
                        have HSY := Lib.hid hsy
                        clear hsy hwq hT
                        go_wp2_with fail
                        refine (GVT.out _ (W27.out _ hbe)).mono ?_
                        rintro e _ ⟨rfl, rfl⟩
                        dsimp only
                        go_wp2_with fail
                        refine (GVM.out _ (W27.out _ hbe)).mono ?_
                        rintro e _ ⟨rfl, rfl⟩
                        dsimp only
                        go_wp2_with fail
                        refine HGO.out.mono ?_
                        rintro e w8 ⟨rfl, hb8⟩
                        have B8 := Lib.hid (B7.out.chain hb8); have KA8 := Lib.hid (blk_below KA7.out hb8)
                        clear hb8 r0 r1 r2 r3 r4 r5 s0 s1 s2 s3 s4 s5
                        obtain ⟨⟨r0, r1, r2, r3, r4, r5⟩, s0, s1, s2, s3, s4, s5⟩ := cellsK6_of KA8.out
                        dsimp only
                        obtain ⟨⟨y0, y1, y2, y3, y4, y5⟩, z0, z1, z2, z3, z4, z5⟩ := cellsK6_of (blk_below K1.out B8.out)
                        go_wp2_with fail
                        obtain ⟨hbf, hyf⟩ := HFIN.out w8 (B8.out) (.string ID) (.string VR) (.string VS) (.string ⟨#[]⟩) (.string ⟨#[]⟩) (.string ⟨#[]⟩)
                        obtain ⟨wf, hwf⟩ : ∃ wf, wf = setK6 w8 (b + 1) (.string ID) (.string VR) (.string VS) (.string ⟨#[]⟩) (.string ⟨#[]⟩) (.string ⟨#[]⟩) := ⟨_, rfl⟩
                        change bodyPost _ _ _ _ _ (setK6 w8 (b + 1) (.string ID) (.string VR) (.string VS) (.string ⟨#[]⟩) (.string ⟨#[]⟩) (.string ⟨#[]⟩))
                        rw [← hwf] at hbf hyf ⊢
                        obtain ⟨⟨a0, a1, a2, a3, a4, a5⟩, -⟩ := cellsK6_of hyf
                        have HBF := Lib.hid hbf
                        clear hwf hbf hyf y0 y1 y2 y3 y4 y5 z0 z1 z2 z3 z4 z5
                        refine bodyPost_ret (v := .tuple #[.agg #[.string ID, .string VR, .string VS, .string ⟨#[]⟩, .string ⟨#[]⟩, .string ⟨#[]⟩], .string ⟨#[105, 110, 118, 97, 108, 105, 100, 95, 114, 101, 113, 117, 101, 115, 116]⟩, .bool true]) (by simp [results, Tryd.results9, go_sem, a0, a1, a2, a3, a4, a5]) rfl ⟨?_, HBF.out⟩
                        exact HSY.out
                      have t6 : ¬ (256 : Int) < (VO.size : Int) := by omega
                      have hwq : wrongP l = [] := by rw [HWR.out, if_neg (by simp [h1]), if_neg (by simp [h2]), if_neg (by decide), if_neg (by rintro (h | h | h) <;> omega)]
                      rw [if_pos hwq] at hT
                      have hsy : AskSays T (.returned (.tuple #[.agg #[.string ID, .string VR, .string VS, .string VN, .string VO, .string VH], .string ⟨#[]⟩, .bool false])) := by rw [← hT]; unfold AskSays; rw [HALL.out]; rfl
                      have HSY := Lib.hid hsy
                      clear hsy hwq hT
                      go_wp2_with fail
                      refine (GVT.out _ (W27.out _ hbe)).mono ?_
                      rintro e _ ⟨rfl, rfl⟩
                      dsimp only
                      go_wp2_with fail
                      refine (GVM.out _ (W27.out _ hbe)).mono ?_
                      rintro e _ ⟨rfl, rfl⟩
                      dsimp only
                      go_wp2_with fail
                      refine HGO.out.mono ?_
                      rintro e w8 ⟨rfl, hb8⟩
                      have B8 := Lib.hid (B7.out.chain hb8); have KA8 := Lib.hid (blk_below KA7.out hb8)
                      clear hb8 r0 r1 r2 r3 r4 r5 s0 s1 s2 s3 s4 s5
                      obtain ⟨⟨r0, r1, r2, r3, r4, r5⟩, s0, s1, s2, s3, s4, s5⟩ := cellsK6_of KA8.out
                      dsimp only
                      obtain ⟨⟨y0, y1, y2, y3, y4, y5⟩, z0, z1, z2, z3, z4, z5⟩ := cellsK6_of (blk_below K1.out B8.out)
                      go_wp2_with fail
                      obtain ⟨hbf, hyf⟩ := HFIN.out w8 (B8.out) (.string ID) (.string VR) (.string VS) (.string VN) (.string VO) (.string VH)
                      obtain ⟨wf, hwf⟩ : ∃ wf, wf = setK6 w8 (b + 1) (.string ID) (.string VR) (.string VS) (.string VN) (.string VO) (.string VH) := ⟨_, rfl⟩
                      change bodyPost _ _ _ _ _ (setK6 w8 (b + 1) (.string ID) (.string VR) (.string VS) (.string VN) (.string VO) (.string VH))
                      rw [← hwf] at hbf hyf ⊢
                      obtain ⟨⟨a0, a1, a2, a3, a4, a5⟩, -⟩ := cellsK6_of hyf
                      have HBF := Lib.hid hbf
                      clear hwf hbf hyf y0 y1 y2 y3 y4 y5 z0 z1 z2 z3 z4 z5
                      refine bodyPost_ret (v := .tuple #[.agg #[.string ID, .string VR, .string VS, .string VN, .string VO, .string VH], .string ⟨#[]⟩, .bool false]) (by simp [results, Tryd.results9, go_sem, a0, a1, a2, a3, a4, a5]) rfl ⟨?_, HBF.out⟩
                      exact HSY.out
end Go.Proofs.YtlcpehmdhnakpaaDoor
