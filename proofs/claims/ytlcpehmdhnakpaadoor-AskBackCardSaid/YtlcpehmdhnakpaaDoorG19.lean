/- Texts merged by program, in build order: AskWish. -/
import Derived.Test.YtlcpehmdhnakpaaDoorG16
import Derived.Test.YtlcpehmdhnakpaaDoorG18
import Derived.Test.YtlcpehmdhnakpaaDoorG17
import Derived.Test.YtlcpehmdhnakpaaDoorG06
set_option linter.unusedVariables false
set_option linter.unusedSimpArgs false
namespace Go.Proofs.YtlcpehmdhnakpaaDoor
open Go.RowKit Go.Shelf
set_option linter.unusedVariables false
set_option linter.unusedSimpArgs false

/-- the words of a text are in memory of the call's own -/
theorem words_cells (s : List UInt8) : (scellsJ (splitL 32 s)).toArray.toList = tcells (splitL 32 s) := by simp [scellsJ, tcells, tv]
/-- Var0 stays -/
theorem var0_below {w W : World} {m : Int} (h : w.cell? ⟨0, 0, none⟩ = some (.int .i64 m)) (hb : Below w.heap.size w W) : W.cell? ⟨0, 0, none⟩ = some (.int .i64 m) := by
  have hz : 0 < w.heap.size := by
    refine Nat.pos_of_ne_zero fun h0 => ?_
    have he : w.heap = #[] := Array.eq_empty_of_size_eq_zero h0
    simp [World.cell?, he] at h
  exact (hb.cell hz).trans h
set_option maxRecDepth 100000 in
set_option maxHeartbeats 4000000 in
theorem askGood_any (c : List UInt8) (hc : c.length ≤ 10000) (w : World) : Calls Tryd.prog 34 #[.string ⟨c.toArray⟩] w fun e w' => e = .returned (.bool (goodB c)) ∧ Below w.heap.size w w' := by
  have hd := decode_says ⟨c.toArray⟩ (by show c.toArray.size ≤ _; simp; omega) w
  have HD := Lib.hid hd
  clear hd
  unfold goodB
  cases hn : dec c with
  | none =>
    go_enter Tryd.func34, Tryd.ntmps34
    go_wp2_with fail
    refine HD.out.mono ?_
    rintro e w1 ⟨h | ⟨h, rfl⟩, hb⟩
    · obtain ⟨o, ho, rfl⟩ := h
      have : dec c = some o := ho
      rw [hn] at this; cases this
    · have HB := Lib.hid hb; clear hb hn h
      dsimp only
      go_wp2
      go_ret
      exact ⟨rfl, HB.out⟩
  | some o =>
    obtain ⟨O, hO⟩ : ∃ O : ByteArray, (⟨o.toArray⟩ : ByteArray) = O := ⟨_, rfl⟩
    have hOs : O.size = o.length := by rw [← hO]; show o.toArray.size = _; simp
    have HOs := Lib.hid hOs; have HO := Lib.hid hO
    go_enter Tryd.func34, Tryd.ntmps34
    go_wp2_with fail
    refine HD.out.mono ?_
    rintro e w1 ⟨h | ⟨h, rfl⟩, hb⟩
    · obtain ⟨o', ho', rfl⟩ := h
      have ho2 : dec c = some o' := ho'
      rw [hn] at ho2
      cases ho2
      rw [HO.out]
      have HB := Lib.hid hb
      clear hb hn hO hOs ho'
      dsimp only
      go_wp2
      go_ret
      exact ⟨ret_bool (by rw [← HOs.out, Bool.eq_iff_iff]; simp; omega), HB.out⟩
    · have h2 : dec c = none := h
      rw [hn] at h2; cases h2
/-- what sender answers -/
noncomputable def senderP (x : CfgP) (id red : List UInt8) : List UInt8 := match findCl x.gClients id with
  | none => eCli
  | some r => if redirP r red = false then eReq else []
set_option maxRecDepth 100000 in
set_option maxHeartbeats 4000000 in
theorem askSender_any (x : CfgP) (A : Option Addr) (n c : Nat) (A' : Option Addr) (n' c' : Nat) (id red : List UInt8) (S N O H : ByteArray) (w : World) (h : CfgIs w x A n c A' n' c') (hfit : x.fit) (h20 : x.gClients.length ≤ 20) :
    Calls Tryd.prog 19 #[x.val A n c A' n' c', .agg #[tv id, tv red, .string S, .string N, .string O, .string H]] w fun e w' => e = .returned (tv (senderP x id red)) ∧ Below w.heap.size w w' := by
  obtain ⟨IS, hIS⟩ : ∃ z : ByteArray, (⟨x.gIssuer.toArray⟩ : ByteArray) = z := ⟨_, rfl⟩
  obtain ⟨KI, hKI⟩ : ∃ z : ByteArray, (⟨x.gKeyID.toArray⟩ : ByteArray) = z := ⟨_, rfl⟩
  obtain ⟨KS, hKS⟩ : ∃ z : ByteArray, (⟨x.gKeySecret.toArray⟩ : ByteArray) = z := ⟨_, rfl⟩
  have hv : x.val A n c A' n' c' = .agg #[.string IS, .string KI, .string KS, .slice A n c, .slice A' n' c'] := by unfold CfgP.val tv; rw [hIS, hKI, hKS]
  obtain ⟨C, hC⟩ : ∃ z : ByteArray, (⟨id.toArray⟩ : ByteArray) = z := ⟨_, rfl⟩
  obtain ⟨R, hR⟩ : ∃ z : ByteArray, (⟨red.toArray⟩ : ByteArray) = z := ⟨_, rfl⟩
  have tC : tv id = .string C := by rw [← hC]; rfl
  have tR : tv red = .string R := by rw [← hR]; rfl
  obtain ⟨b, hb⟩ : ∃ b, w.heap.size = b := ⟨_, rfl⟩
  obtain ⟨W0, hW0⟩ : ∃ W, (w.alloc (.cells #[.string IS, .string KI, .string KS, .slice A n c, .slice A' n' c'] 27)).alloc (.cells #[.string C, .string R, .string S, .string N, .string O, .string H] 30) = W := ⟨_, rfl⟩
  have hb0 : Below w.heap.size w W0 := by rw [← hW0]; exact ((Below.refl _ _).alloc (Nat.le_refl _) _).alloc (by simp) _
  have k0 : W0.heap[b]? = some (.cells #[.string IS, .string KI, .string KS, .slice A n c, .slice A' n' c'] 27 (0, 0)) := by rw [← hW0, ← hb]; exact alloc_block (heap_alloc_last w _)
  have k1 : W0.heap[b + 1]? = some (.cells #[.string C, .string R, .string S, .string N, .string O, .string H] 30 (0, 0)) := by rw [← hW0, ← hb]; exact fresh_at _ (by simp)
  have hcl := codeClient w W0 hb0 x A n c A' n' c' id (h.below hb0) hfit h20
  rw [hv, tC] at hcl
  obtain ⟨FC, hFC⟩ : ∃ z, findCl x.gClients id = z := ⟨_, rfl⟩
  unfold CliOwn at hcl
  unfold senderP
  rw [hFC] at hcl ⊢
  have hfr : ∀ r, FC = some r → r.fit := fun r hr => hfit.2.2.2.2.1 r (find_mem (hFC.trans hr))
  rw [hv, tC, tR]
  obtain ⟨⟨e0, e1, e2, e3, e4⟩, -⟩ := cellsK5_of k0
  obtain ⟨⟨y0, y1, y2, y3, y4, y5⟩, -⟩ := cellsK6_of k1
  have HB := Lib.hid hb; have HW0 := Lib.hid hW0; have HB0 := Lib.hid hb0; have K0 := Lib.hid k0; have K1 := Lib.hid k1; have HCL := Lib.hid hcl; have HFR := Lib.hid hfr; have HTR := Lib.hid tR
  clear hb hW0 hb0 k0 k1 hcl hfr hFC h hfit h20 hv tC tR hC hIS hKI hKS
  cases FC with
  | none =>
    dsimp only
    go_enter Tryd.func19, Tryd.ntmps19
    go_upto_region 1 with fail
    rw [HW0.out, HB.out]
    go_wp2_with fail
    refine HCL.out.mono ?_
    rintro e w1 ⟨rfl, hb1⟩
    have B1 := Lib.hid (HB0.out.chain hb1)
    clear hb1
    dsimp only
    go_wp2
    go_ret
    exact ⟨rfl, (B1.out).alloc (B1.out).size _⟩
  | some r =>
    dsimp only
    obtain ⟨ID, hID⟩ : ∃ z : ByteArray, (⟨r.cID.toArray⟩ : ByteArray) = z := ⟨_, rfl⟩
    obtain ⟨SE, hSE⟩ : ∃ z : ByteArray, (⟨r.cSecret.toArray⟩ : ByteArray) = z := ⟨_, rfl⟩
    have tID : tv r.cID = .string ID := by rw [← hID]; rfl
    have tSE : tv r.cSecret = .string SE := by rw [← hSE]; rfl
    obtain ⟨nr, hnr⟩ : ∃ z, r.cReds.length = z := ⟨_, rfl⟩
    have hre := fun W (B : Option Addr) (c : Nat) (hr : RdT W (.slice B nr c) r.cReds) => codeRedir W W (Below.refl _ _) r B nr c red hnr.symm (HFR.out r rfl) hr
    obtain ⟨rb, hrb⟩ : ∃ z, redirP r red = z := ⟨_, rfl⟩
    rw [hrb, tID, tSE, HTR.out] at hre
    rw [hrb]
    have HCL2 := HCL.out
    dsimp only at HCL2
    rw [tID, tSE] at HCL2
    have hcl := HCL2.mono (fun e w' h => show (∃ B c, e = .returned (.tuple #[.agg #[.string ID, .string SE, .slice B nr c], .bool true]) ∧ RdT w' (.slice B nr c) r.cReds) ∧ Below W0.heap.size W0 w' from by
      obtain ⟨⟨u, rfl, hu⟩, hb⟩ := h
      obtain ⟨B, c, rfl⟩ := own_formR hu
      have hr := TRow.rd hu
      rw [hnr] at hr ⊢
      exact ⟨⟨B, c, rfl, hr⟩, hb⟩)
    have HC := Lib.hid hcl; have HRE := Lib.hid hre
    clear HCL HCL2 hcl hre hrb hID hSE tID tSE hnr HFR
    go_enter Tryd.func19, Tryd.ntmps19
    go_upto_region 1 with fail
    rw [HW0.out, HB.out]
    go_wp2_with fail
    refine HC.out.mono ?_
    rintro e w1 ⟨⟨B, c1, rfl, hr⟩, hb1⟩
    obtain ⟨W2, hW2⟩ : ∃ W, w1.alloc (.cells #[.string ID, .string SE, .slice B nr c1] 43) = W := ⟨_, rfl⟩
    have ha : Below w1.heap.size w1 W2 := by rw [← hW2]; exact (Below.refl _ _).alloc (Nat.le_refl _) _
    have hb2 := HB0.out.chain (hb1.chain ha)
    have k2 : W2.heap[w1.heap.size]? = some (.cells #[.string ID, .string SE, .slice B nr c1] 43 (0, 0)) := by rw [← hW2]; exact heap_alloc_last w1 _
    have kc := blk_below K1.out (hb1.chain ha)
    have hr2 := HRE.out W2 B c1 (hr.below ha)
    obtain ⟨q, hq⟩ : ∃ q, w1.heap.size = q := ⟨_, rfl⟩
    rw [hq] at k2
    have HW2 := Lib.hid hW2; have B2 := Lib.hid hb2; have K2 := Lib.hid k2; have KC := Lib.hid kc; have HR2 := Lib.hid hr2; have HQ := Lib.hid hq
    clear hW2 ha hb2 k2 kc hr2 hr hb1 hq e0 e1 e2 e3 e4 y0 y1 y2 y3 y4 y5
    dsimp only
    go_upto_region 2 with fail
    rw [HW2.out, HQ.out]
    obtain ⟨⟨e0, e1, e2⟩, -⟩ := cellsK3_of K2.out
    obtain ⟨⟨y0, y1, y2, y3, y4, y5⟩, -⟩ := cellsK6_of KC.out
    cases rb with
    | true =>
      go_wp2_with fail
      refine HR2.out.mono ?_
      rintro e w3 ⟨rfl, hb3⟩
      have B3 := Lib.hid (B2.out.chain hb3)
      clear hb3
      dsimp only
      go_wp2
      go_ret
      exact ⟨rfl, B3.out⟩
    | false =>
      go_wp2_with fail
      refine HR2.out.mono ?_
      rintro e w3 ⟨rfl, hb3⟩
      have B3 := Lib.hid (B2.out.chain hb3)
      clear hb3
      dsimp only
      go_wp2
      go_ret
      exact ⟨rfl, B3.out⟩
/-- what wish answers -/
def wishP (l : PL) (S N O H : List UInt8) : List UInt8 :=
  if gP l kTyp ≠ sCode then eTyp
  else if gP l kMet ≠ sS256 ∨ goodB H = false then eReq
  else if openB O = false then eSco
  else if 256 < S.length ∨ 256 < N.length ∨ 256 < O.length then eReq
  else []
theorem ba_neq (x : List UInt8) (X : ByteArray) (h : (⟨x.toArray⟩ : ByteArray) = X) (y : List UInt8) : (!X.toList == y) = !decide (x = y) := by
  rw [← h, ByteArray.toList_eq]
  show (!x == y) = _
  by_cases h : x = y <;> simp [h]
set_option maxRecDepth 100000 in
set_option maxHeartbeats 8000000 in
theorem askWish_any (C R S N O H : ByteArray) (A : Option Addr) (c : Nat) (l : PL) (w : World) (m : Int) (hm : w.cell? ⟨0, 0, none⟩ = some (.int .i64 m)) (hl : l.length ≤ 64) (hp : Prs w w.heap.size A l) (hO : O.size ≤ 5000) (hH : H.size ≤ 5000) :
    Calls Tryd.prog 20 #[.agg #[.string C, .string R, .string S, .string N, .string O, .string H], .slice A l.length c] w fun e w' => e = .returned (tv (wishP l S.data.toList N.data.toList O.data.toList H.data.toList)) ∧ Below w.heap.size w w' := by
  obtain ⟨W0, hW0⟩ : ∃ W, w.alloc (.cells #[.string C, .string R, .string S, .string N, .string O, .string H] 30) = W := ⟨_, rfl⟩
  obtain ⟨b, hb⟩ : ∃ b, w.heap.size = b := ⟨_, rfl⟩
  have hb0 : Below w.heap.size w W0 := by rw [← hW0]; exact (Below.refl _ _).alloc (Nat.le_refl _) _
  have k0 : W0.heap[b]? = some (.cells #[.string C, .string R, .string S, .string N, .string O, .string H] 30 (0, 0)) := by rw [← hW0, ← hb]; exact heap_alloc_last w _
  obtain ⟨np, hnp⟩ : ∃ z, l.length = z := ⟨_, rfl⟩
  have hTy := fun W (hB : Below w.heap.size w W) => askTold_any A c l kTyp W hl ((hp.below hB).more hB.size)
  have hMe := fun W (hB : Below w.heap.size w W) => askTold_any A c l kMet W hl ((hp.below hB).more hB.size)
  obtain ⟨VT, hVT⟩ : ∃ z : ByteArray, (⟨(gP l kTyp).toArray⟩ : ByteArray) = z := ⟨_, rfl⟩
  obtain ⟨VM, hVM⟩ : ∃ z : ByteArray, (⟨(gP l kMet).toArray⟩ : ByteArray) = z := ⟨_, rfl⟩
  have tTy := ba_neq _ VT hVT [99, 111, 100, 101]
  have tMe := ba_neq _ VM hVM [83, 50, 53, 54]
  rw [hnp, hVT] at hTy
  rw [hnp, hVM] at hMe
  have hGo := fun W => askGood_any H.data.toList (by show H.size ≤ _; omega) W
  rw [show (⟨H.data.toList.toArray⟩ : ByteArray) = H by simp] at hGo
  obtain ⟨G, hG⟩ : ∃ z, goodB H.data.toList = z := ⟨_, rfl⟩
  rw [hG] at hGo
  have hSp : ∀ W, Below w.heap.size w W → Calls Tryd.prog 36 #[.string O, .string ⟨#[32]⟩] W fun e w' => ∃ n A, e = .returned (.slice A n n) ∧ n = (splitL 32 O.data.toList).length ∧ RdT w' (.slice A n n) (splitL 32 O.data.toList) ∧ Below W.heap.size W w' := fun W hB => by
    have h := Tryd.strings_Split O ⟨#[32]⟩ m W (by omega) (var0_below hm hB) (by decide)
    obtain ⟨o, ho⟩ : ∃ o, O.data.toList = o := ⟨_, rfl⟩
    have hO2 : (⟨o.toArray⟩ : ByteArray) = O := by rw [← ho]
    rw [ho]
    rw [← hO2, splitB_one, splitB_len] at h
    rw [← hO2]
    refine h.mono fun e w' ⟨he, hw⟩ => ⟨_, _, he, rfl, ?_, ?_⟩
    · rw [hw]; exact rdt_new (heap_alloc_last W _) (words_cells o)
    · rw [hw]; exact (Below.refl _ _).alloc (Nat.le_refl _) _
  obtain ⟨ws, hws⟩ : ∃ z, splitL 32 O.data.toList = z := ⟨_, rfl⟩
  have hwl : ws.length ≤ 5001 := by
    have h1 := splitL_len 32 O.data.toList
    have h2 : O.data.toList.length = O.size := rfl
    rw [hws] at h1; omega
  rw [hws] at hSp
  have hCo : ∀ W A n, n = ws.length → RdT W (.slice A n n) ws → Calls Tryd.prog 35 #[.slice A n n, .string ⟨#[111, 112, 101, 110, 105, 100]⟩] W fun e w' => e = .returned (.bool (ws.any (fun y => decide (y = sOpen)))) ∧ Below W.heap.size W w' := fun W A n hn hr => by
    subst hn
    exact hasT_any A _ ws sOpen W (by omega) hr
  obtain ⟨OB, hOB⟩ : ∃ z, openB O.data.toList = z := ⟨_, rfl⟩
  have hOB2 : ws.any (fun y => decide (y = sOpen)) = OB := by
    rw [← hOB, ← hws, Bool.eq_iff_iff]
    unfold openB
    simp
  rw [hOB2] at hCo
  obtain ⟨P, hP⟩ : ∃ P, wishP l S.data.toList N.data.toList O.data.toList H.data.toList = P := ⟨_, rfl⟩
  rw [hP, hnp]
  unfold wishP at hP
  rw [hG, hOB, show S.data.toList.length = S.size from rfl, show N.data.toList.length = N.size from rfl, show O.data.toList.length = O.size from rfl] at hP
  have hBr := fun s W => askBrief_any s W
  obtain ⟨TY, hTYP⟩ : ∃ z, gP l kTyp = z := ⟨_, rfl⟩
  obtain ⟨ME, hMET⟩ : ∃ z, gP l kMet = z := ⟨_, rfl⟩
  rw [hTYP] at hP tTy
  rw [hMET] at hP tMe
  obtain ⟨⟨y0, y1, y2, y3, y4, y5⟩, -⟩ := cellsK6_of k0
  have HB := Lib.hid hb; have HW0 := Lib.hid hW0; have HB0 := Lib.hid hb0; have K0 := Lib.hid k0; have HTY := Lib.hid hTy; have HME := Lib.hid hMe; have HGO := Lib.hid hGo; have HSP := Lib.hid hSp; have HCO := Lib.hid hCo; have HBR := Lib.hid hBr
  clear hb hW0 hb0 k0 hTy hMe hGo hSp hCo hBr hp hm hnp hVT hVM hG hws hwl hOB hOB2 hTYP hMET hl hO hH
  by_cases h1 : TY = sCode
  rotate_left
  · rw [if_pos h1] at hP
    subst hP
    have t1 : (!VT.toList == [99, 111, 100, 101]) = true := by rw [tTy]; simpa [sCode] using h1
    clear tTy tMe h1
    go_enter Tryd.func20, Tryd.ntmps20
    go_upto_region 1 with fail
    rw [HW0.out, HB.out]
    go_wp2_with fail
    refine (HTY.out _ HB0.out).mono ?_
    rintro e w1 ⟨rfl, hb1⟩
    have B1 := Lib.hid (HB0.out.chain hb1)
    clear hb1
    dsimp only
    go_wp2
    go_ret
    exact ⟨rfl, B1.out⟩
  have t1 : (!VT.toList == [99, 111, 100, 101]) = false := by rw [tTy]; simpa [sCode] using h1
  rw [if_neg (by simpa using h1)] at hP
  clear tTy h1
  by_cases h2 : ME = sS256
  rotate_left
  · rw [if_pos (Or.inl h2)] at hP
    subst hP
    have t2 : (!VM.toList == [83, 50, 53, 54]) = true := by rw [tMe]; simpa [sS256] using h2
    clear tMe h2
    go_enter Tryd.func20, Tryd.ntmps20
    go_upto_region 1 with fail
    rw [HW0.out, HB.out]
    go_wp2_with fail
    refine (HTY.out _ HB0.out).mono ?_
    rintro e w1 ⟨rfl, hb1⟩
    have B1 := Lib.hid ((HB0.out).chain hb1)
    have K1 := Lib.hid (blk_below K0.out hb1)
    clear hb1
    dsimp only
    go_wp2_with fail
    refine (HME.out _ B1.out).mono ?_
    rintro e w2 ⟨rfl, hb2⟩
    have B2 := Lib.hid ((B1.out).chain hb2)
    have K2 := Lib.hid (blk_below K1.out hb2)
    clear hb2
    dsimp only
    go_wp2
    go_ret
    exact ⟨rfl, B2.out⟩
  have t2 : (!VM.toList == [83, 50, 53, 54]) = false := by rw [tMe]; simpa [sS256] using h2
  clear tMe
  cases G with
  | false =>
    rw [if_pos (Or.inr rfl)] at hP
    subst hP
    clear h2
    go_enter Tryd.func20, Tryd.ntmps20
    go_upto_region 1 with fail
    rw [HW0.out, HB.out]
    go_wp2_with fail
    refine (HTY.out _ HB0.out).mono ?_
    rintro e w1 ⟨rfl, hb1⟩
    have B1 := Lib.hid ((HB0.out).chain hb1)
    have K1 := Lib.hid (blk_below K0.out hb1)
    clear hb1
    dsimp only
    go_wp2_with fail
    refine (HME.out _ B1.out).mono ?_
    rintro e w2 ⟨rfl, hb2⟩
    have B2 := Lib.hid ((B1.out).chain hb2)
    have K2 := Lib.hid (blk_below K1.out hb2)
    clear hb2
    clear y0 y1 y2 y3 y4 y5
    obtain ⟨⟨y0, y1, y2, y3, y4, y5⟩, -⟩ := cellsK6_of K2.out
    dsimp only
    go_wp2_with fail
    refine (HGO.out _).mono ?_
    rintro e w3 ⟨rfl, hb3⟩
    have B3 := Lib.hid ((B2.out).chain hb3)
    have K3 := Lib.hid (blk_below K2.out hb3)
    clear hb3
    dsimp only
    go_wp2
    go_ret
    exact ⟨rfl, B3.out⟩
  | true =>
    rw [if_neg (by simp [h2])] at hP
    clear h2
    cases OB with
    | false =>
      rw [if_pos rfl] at hP
      subst hP
      go_enter Tryd.func20, Tryd.ntmps20
      go_upto_region 1 with fail
      rw [HW0.out, HB.out]
      go_wp2_with fail
      refine (HTY.out _ HB0.out).mono ?_
      rintro e w1 ⟨rfl, hb1⟩
      have B1 := Lib.hid ((HB0.out).chain hb1)
      have K1 := Lib.hid (blk_below K0.out hb1)
      clear hb1
      dsimp only
      go_wp2_with fail
      refine (HME.out _ B1.out).mono ?_
      rintro e w2 ⟨rfl, hb2⟩
      have B2 := Lib.hid ((B1.out).chain hb2)
      have K2 := Lib.hid (blk_below K1.out hb2)
      clear hb2
      clear y0 y1 y2 y3 y4 y5
      obtain ⟨⟨y0, y1, y2, y3, y4, y5⟩, -⟩ := cellsK6_of K2.out
      dsimp only
      go_wp2_with fail
      refine (HGO.out _).mono ?_
      rintro e w3 ⟨rfl, hb3⟩
      have B3 := Lib.hid ((B2.out).chain hb3)
      have K3 := Lib.hid (blk_below K2.out hb3)
      clear hb3
      clear y0 y1 y2 y3 y4 y5
      obtain ⟨⟨y0, y1, y2, y3, y4, y5⟩, -⟩ := cellsK6_of K3.out
      dsimp only
      go_wp2_with fail
      refine (HSP.out _ B3.out).mono ?_
      rintro e w4 ⟨n4, A4, rfl, hn4, hr4, hb4⟩
      have hc4 := HCO.out w4 A4 n4 hn4 hr4
      have B4 := Lib.hid (B3.out.chain hb4)
      have K4 := Lib.hid (blk_below K3.out hb4)
      have HC4 := Lib.hid hc4
      clear hb4 hn4 hr4 hc4
      dsimp only
      go_wp2_with fail
      refine HC4.out.mono ?_
      rintro e w5 ⟨rfl, hb5⟩
      have B5 := Lib.hid (B4.out.chain hb5)
      have K5 := Lib.hid (blk_below K4.out hb5)
      clear hb5
      clear y0 y1 y2 y3 y4 y5
      obtain ⟨⟨y0, y1, y2, y3, y4, y5⟩, -⟩ := cellsK6_of K5.out
      dsimp only
      go_wp2
      go_ret
      exact ⟨rfl, B5.out⟩
    | true =>
      rw [if_neg (by decide)] at hP
      have BS := HBR.out S
      have BN := HBR.out N
      have BO := HBR.out O
      by_cases hS : S.size ≤ 256
      rotate_left
      · have dS : decide (S.size ≤ 256) = false := by simp; omega
        rw [if_pos (by omega)] at hP
        subst hP
        clear hS
        rw [dS] at BS
        have HS := fun W => Lib.hid (BS W)
        clear BS
        clear BN BO
        go_enter Tryd.func20, Tryd.ntmps20
        go_upto_region 1 with fail
        rw [HW0.out, HB.out]
        go_wp2_with fail
        refine (HTY.out _ HB0.out).mono ?_
        rintro e w1 ⟨rfl, hb1⟩
        have B1 := Lib.hid ((HB0.out).chain hb1)
        have K1 := Lib.hid (blk_below K0.out hb1)
        clear hb1
        dsimp only
        go_wp2_with fail
        refine (HME.out _ B1.out).mono ?_
        rintro e w2 ⟨rfl, hb2⟩
        have B2 := Lib.hid ((B1.out).chain hb2)
        have K2 := Lib.hid (blk_below K1.out hb2)
        clear hb2
        clear y0 y1 y2 y3 y4 y5
        obtain ⟨⟨y0, y1, y2, y3, y4, y5⟩, -⟩ := cellsK6_of K2.out
        dsimp only
        go_wp2_with fail
        refine (HGO.out _).mono ?_
        rintro e w3 ⟨rfl, hb3⟩
        have B3 := Lib.hid ((B2.out).chain hb3)
        have K3 := Lib.hid (blk_below K2.out hb3)
        clear hb3
        clear y0 y1 y2 y3 y4 y5
        obtain ⟨⟨y0, y1, y2, y3, y4, y5⟩, -⟩ := cellsK6_of K3.out
        dsimp only
        go_wp2_with fail
        refine (HSP.out _ B3.out).mono ?_
        rintro e w4 ⟨n4, A4, rfl, hn4, hr4, hb4⟩
        have hc4 := HCO.out w4 A4 n4 hn4 hr4
        have B4 := Lib.hid (B3.out.chain hb4)
        have K4 := Lib.hid (blk_below K3.out hb4)
        have HC4 := Lib.hid hc4
        clear hb4 hn4 hr4 hc4
        dsimp only
        go_wp2_with fail
        refine HC4.out.mono ?_
        rintro e w5 ⟨rfl, hb5⟩
        have B5 := Lib.hid (B4.out.chain hb5)
        have K5 := Lib.hid (blk_below K4.out hb5)
        clear hb5
        clear y0 y1 y2 y3 y4 y5
        obtain ⟨⟨y0, y1, y2, y3, y4, y5⟩, -⟩ := cellsK6_of K5.out
        dsimp only
        go_wp2_with fail
        refine (HS w5).out.mono ?_
        rintro e w6 ⟨rfl, rfl⟩
        dsimp only
        go_wp2
        go_ret
        exact ⟨rfl, B5.out⟩
      have dS : decide (S.size ≤ 256) = true := by simp; omega
      by_cases hN : N.size ≤ 256
      rotate_left
      · have dN : decide (N.size ≤ 256) = false := by simp; omega
        rw [if_pos (by omega)] at hP
        subst hP
        clear hS hN
        rw [dS] at BS
        have HS := fun W => Lib.hid (BS W)
        clear BS
        rw [dN] at BN
        have HN := fun W => Lib.hid (BN W)
        clear BN
        clear BO
        go_enter Tryd.func20, Tryd.ntmps20
        go_upto_region 1 with fail
        rw [HW0.out, HB.out]
        go_wp2_with fail
        refine (HTY.out _ HB0.out).mono ?_
        rintro e w1 ⟨rfl, hb1⟩
        have B1 := Lib.hid ((HB0.out).chain hb1)
        have K1 := Lib.hid (blk_below K0.out hb1)
        clear hb1
        dsimp only
        go_wp2_with fail
        refine (HME.out _ B1.out).mono ?_
        rintro e w2 ⟨rfl, hb2⟩
        have B2 := Lib.hid ((B1.out).chain hb2)
        have K2 := Lib.hid (blk_below K1.out hb2)
        clear hb2
        clear y0 y1 y2 y3 y4 y5
        obtain ⟨⟨y0, y1, y2, y3, y4, y5⟩, -⟩ := cellsK6_of K2.out
        dsimp only
        go_wp2_with fail
        refine (HGO.out _).mono ?_
        rintro e w3 ⟨rfl, hb3⟩
        have B3 := Lib.hid ((B2.out).chain hb3)
        have K3 := Lib.hid (blk_below K2.out hb3)
        clear hb3
        clear y0 y1 y2 y3 y4 y5
        obtain ⟨⟨y0, y1, y2, y3, y4, y5⟩, -⟩ := cellsK6_of K3.out
        dsimp only
        go_wp2_with fail
        refine (HSP.out _ B3.out).mono ?_
        rintro e w4 ⟨n4, A4, rfl, hn4, hr4, hb4⟩
        have hc4 := HCO.out w4 A4 n4 hn4 hr4
        have B4 := Lib.hid (B3.out.chain hb4)
        have K4 := Lib.hid (blk_below K3.out hb4)
        have HC4 := Lib.hid hc4
        clear hb4 hn4 hr4 hc4
        dsimp only
        go_wp2_with fail
        refine HC4.out.mono ?_
        rintro e w5 ⟨rfl, hb5⟩
        have B5 := Lib.hid (B4.out.chain hb5)
        have K5 := Lib.hid (blk_below K4.out hb5)
        clear hb5
        clear y0 y1 y2 y3 y4 y5
        obtain ⟨⟨y0, y1, y2, y3, y4, y5⟩, -⟩ := cellsK6_of K5.out
        dsimp only
        go_wp2_with fail
        refine (HS w5).out.mono ?_
        rintro e w6 ⟨rfl, rfl⟩
        dsimp only
        go_wp2_with fail
        refine (HN w5).out.mono ?_
        rintro e w6 ⟨rfl, rfl⟩
        dsimp only
        go_wp2
        go_ret
        exact ⟨rfl, B5.out⟩
      have dN : decide (N.size ≤ 256) = true := by simp; omega
      by_cases hO : O.size ≤ 256
      rotate_left
      · have dO : decide (O.size ≤ 256) = false := by simp; omega
        rw [if_pos (by omega)] at hP
        subst hP
        clear hS hN hO
        rw [dS] at BS
        have HS := fun W => Lib.hid (BS W)
        clear BS
        rw [dN] at BN
        have HN := fun W => Lib.hid (BN W)
        clear BN
        rw [dO] at BO
        have HO := fun W => Lib.hid (BO W)
        clear BO
        go_enter Tryd.func20, Tryd.ntmps20
        go_upto_region 1 with fail
        rw [HW0.out, HB.out]
        go_wp2_with fail
        refine (HTY.out _ HB0.out).mono ?_
        rintro e w1 ⟨rfl, hb1⟩
        have B1 := Lib.hid ((HB0.out).chain hb1)
        have K1 := Lib.hid (blk_below K0.out hb1)
        clear hb1
        dsimp only
        go_wp2_with fail
        refine (HME.out _ B1.out).mono ?_
        rintro e w2 ⟨rfl, hb2⟩
        have B2 := Lib.hid ((B1.out).chain hb2)
        have K2 := Lib.hid (blk_below K1.out hb2)
        clear hb2
        clear y0 y1 y2 y3 y4 y5
        obtain ⟨⟨y0, y1, y2, y3, y4, y5⟩, -⟩ := cellsK6_of K2.out
        dsimp only
        go_wp2_with fail
        refine (HGO.out _).mono ?_
        rintro e w3 ⟨rfl, hb3⟩
        have B3 := Lib.hid ((B2.out).chain hb3)
        have K3 := Lib.hid (blk_below K2.out hb3)
        clear hb3
        clear y0 y1 y2 y3 y4 y5
        obtain ⟨⟨y0, y1, y2, y3, y4, y5⟩, -⟩ := cellsK6_of K3.out
        dsimp only
        go_wp2_with fail
        refine (HSP.out _ B3.out).mono ?_
        rintro e w4 ⟨n4, A4, rfl, hn4, hr4, hb4⟩
        have hc4 := HCO.out w4 A4 n4 hn4 hr4
        have B4 := Lib.hid (B3.out.chain hb4)
        have K4 := Lib.hid (blk_below K3.out hb4)
        have HC4 := Lib.hid hc4
        clear hb4 hn4 hr4 hc4
        dsimp only
        go_wp2_with fail
        refine HC4.out.mono ?_
        rintro e w5 ⟨rfl, hb5⟩
        have B5 := Lib.hid (B4.out.chain hb5)
        have K5 := Lib.hid (blk_below K4.out hb5)
        clear hb5
        clear y0 y1 y2 y3 y4 y5
        obtain ⟨⟨y0, y1, y2, y3, y4, y5⟩, -⟩ := cellsK6_of K5.out
        dsimp only
        go_wp2_with fail
        refine (HS w5).out.mono ?_
        rintro e w6 ⟨rfl, rfl⟩
        dsimp only
        go_wp2_with fail
        refine (HN w5).out.mono ?_
        rintro e w6 ⟨rfl, rfl⟩
        dsimp only
        go_wp2_with fail
        refine (HO w5).out.mono ?_
        rintro e w6 ⟨rfl, rfl⟩
        dsimp only
        go_wp2
        go_ret
        exact ⟨rfl, B5.out⟩
      have dO : decide (O.size ≤ 256) = true := by simp; omega
      rw [if_neg (by omega)] at hP
      subst hP
      clear hS hN hO
      rw [dS] at BS
      have HS := fun W => Lib.hid (BS W)
      clear BS
      rw [dN] at BN
      have HN := fun W => Lib.hid (BN W)
      clear BN
      rw [dO] at BO
      have HO := fun W => Lib.hid (BO W)
      clear BO
      go_enter Tryd.func20, Tryd.ntmps20
      go_upto_region 1 with fail
      rw [HW0.out, HB.out]
      go_wp2_with fail
      refine (HTY.out _ HB0.out).mono ?_
      rintro e w1 ⟨rfl, hb1⟩
      have B1 := Lib.hid ((HB0.out).chain hb1)
      have K1 := Lib.hid (blk_below K0.out hb1)
      clear hb1
      dsimp only
      go_wp2_with fail
      refine (HME.out _ B1.out).mono ?_
      rintro e w2 ⟨rfl, hb2⟩
      have B2 := Lib.hid ((B1.out).chain hb2)
      have K2 := Lib.hid (blk_below K1.out hb2)
      clear hb2
      clear y0 y1 y2 y3 y4 y5
      obtain ⟨⟨y0, y1, y2, y3, y4, y5⟩, -⟩ := cellsK6_of K2.out
      dsimp only
      go_wp2_with fail
      refine (HGO.out _).mono ?_
      rintro e w3 ⟨rfl, hb3⟩
      have B3 := Lib.hid ((B2.out).chain hb3)
      have K3 := Lib.hid (blk_below K2.out hb3)
      clear hb3
      clear y0 y1 y2 y3 y4 y5
      obtain ⟨⟨y0, y1, y2, y3, y4, y5⟩, -⟩ := cellsK6_of K3.out
      dsimp only
      go_wp2_with fail
      refine (HSP.out _ B3.out).mono ?_
      rintro e w4 ⟨n4, A4, rfl, hn4, hr4, hb4⟩
      have hc4 := HCO.out w4 A4 n4 hn4 hr4
      have B4 := Lib.hid (B3.out.chain hb4)
      have K4 := Lib.hid (blk_below K3.out hb4)
      have HC4 := Lib.hid hc4
      clear hb4 hn4 hr4 hc4
      dsimp only
      go_wp2_with fail
      refine HC4.out.mono ?_
      rintro e w5 ⟨rfl, hb5⟩
      have B5 := Lib.hid (B4.out.chain hb5)
      have K5 := Lib.hid (blk_below K4.out hb5)
      clear hb5
      clear y0 y1 y2 y3 y4 y5
      obtain ⟨⟨y0, y1, y2, y3, y4, y5⟩, -⟩ := cellsK6_of K5.out
      dsimp only
      go_wp2_with fail
      refine (HS w5).out.mono ?_
      rintro e w6 ⟨rfl, rfl⟩
      dsimp only
      go_wp2_with fail
      refine (HN w5).out.mono ?_
      rintro e w6 ⟨rfl, rfl⟩
      dsimp only
      go_wp2_with fail
      refine (HO w5).out.mono ?_
      rintro e w6 ⟨rfl, rfl⟩
      dsimp only
      go_wp2
      go_ret
      exact ⟨rfl, B5.out⟩
end Go.Proofs.YtlcpehmdhnakpaaDoor
