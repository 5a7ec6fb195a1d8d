/- The reference's Session, Code, Family (layer 13). Written by wip/gen/gref13.py. -/
import Derived.Test.YtefnkkjmcfpiaaaDoorRowRef
import Derived.Lib.AppendZeros
namespace Go.Proofs.YtefnkkjmcfpiaaaDoor
open Go.RowKit
set_option linter.unusedVariables false
set_option linter.unusedSimpArgs false

theorem dec_back (n : Int) (h : -9223372036854775808 ≤ n ∧ n ≤ 9223372036854775807) (W : World) : Calls Tryd.prog 33 #[.int .i64 n] W fun e w' => e = .returned (tv (decI n)) ∧ Below W.heap.size W w' := refDec_any n h W
set_option maxRecDepth 100000 in
set_option maxHeartbeats 4000000 in
theorem refSession13_any (x : Sess) (hx : x.ok) (hl : (textsL x.texts).length ≤ 1000000000) (w : World) :
    Calls Tryd.prog 19 #[x.val] w fun e w' => e = .returned (tv (textsL x.texts)) ∧ Below w.heap.size w w' := by
  have htx := fun (W : World) (R : Nat) (h : RdT W (.slice (some ⟨R, 0, none⟩) x.texts.length x.texts.length) x.texts) => refTexts13_any (some ⟨R, 0, none⟩) x.texts.length x.texts hl W h
  have hd7 := fun W => dec_back x.fStage hx.1 W
  obtain ⟨D7, hD7⟩ : ∃ B : ByteArray, B = ⟨(decI x.fStage).toArray⟩ := ⟨_, rfl⟩
  unfold tv at hd7
  rw [← hD7] at hd7
  have hd11 := fun W => dec_back x.fEnds hx.2 W
  obtain ⟨D11, hD11⟩ : ∃ B : ByteArray, B = ⟨(decI x.fEnds).toArray⟩ := ⟨_, rfl⟩
  unfold tv at hd11
  rw [← hD11] at hd11
  obtain ⟨B0, hB0⟩ : ∃ B : ByteArray, B = ⟨x.fCookie.toArray⟩ := ⟨_, rfl⟩
  obtain ⟨B1, hB1⟩ : ∃ B : ByteArray, B = ⟨x.fClient.toArray⟩ := ⟨_, rfl⟩
  obtain ⟨B2, hB2⟩ : ∃ B : ByteArray, B = ⟨x.fRedirect.toArray⟩ := ⟨_, rfl⟩
  obtain ⟨B3, hB3⟩ : ∃ B : ByteArray, B = ⟨x.fState.toArray⟩ := ⟨_, rfl⟩
  obtain ⟨B4, hB4⟩ : ∃ B : ByteArray, B = ⟨x.fNonce.toArray⟩ := ⟨_, rfl⟩
  obtain ⟨B5, hB5⟩ : ∃ B : ByteArray, B = ⟨x.fScope.toArray⟩ := ⟨_, rfl⟩
  obtain ⟨B6, hB6⟩ : ∃ B : ByteArray, B = ⟨x.fChallenge.toArray⟩ := ⟨_, rfl⟩
  obtain ⟨B8, hB8⟩ : ∃ B : ByteArray, B = ⟨x.fConn.toArray⟩ := ⟨_, rfl⟩
  obtain ⟨B9, hB9⟩ : ∃ B : ByteArray, B = ⟨x.fUpState.toArray⟩ := ⟨_, rfl⟩
  obtain ⟨B10, hB10⟩ : ∃ B : ByteArray, B = ⟨x.fUpNonce.toArray⟩ := ⟨_, rfl⟩
  have hC : tcells x.texts = [.string B0, .string B1, .string B2, .string B3, .string B4, .string B5, .string B6, .string D7, .string B8, .string B9, .string B10, .string D11] := by
    rw [hB0, hB1, hB2, hB3, hB4, hB5, hB6, hD7, hB8, hB9, hB10, hD11]; rfl
  have hval : x.val = .agg #[.string B0, .string B1, .string B2, .string B3, .string B4, .string B5, .string B6, .int .i64 x.fStage, .string B8, .string B9, .string B10, .int .i64 x.fEnds] := by
    rw [hB0, hB1, hB2, hB3, hB4, hB5, hB6, hB8, hB9, hB10]; rfl
  have hlen : x.texts.length = 12 := rfl
  rw [hlen] at htx
  rw [hval]
  obtain ⟨b, hb⟩ : ∃ b, w.heap.size = b := ⟨_, rfl⟩
  obtain ⟨W0, hW0⟩ : ∃ W, w.alloc (.cells #[.string B0, .string B1, .string B2, .string B3, .string B4, .string B5, .string B6, .int .i64 x.fStage, .string B8, .string B9, .string B10, .int .i64 x.fEnds] 35) = W := ⟨_, rfl⟩
  have hb0 : Below w.heap.size w W0 := by rw [← hW0]; exact (Below.refl _ _).alloc (Nat.le_refl _) _
  have k0 : W0.heap[b]? = some (.cells #[.string B0, .string B1, .string B2, .string B3, .string B4, .string B5, .string B6, .int .i64 x.fStage, .string B8, .string B9, .string B10, .int .i64 x.fEnds] 35) := by rw [← hW0, ← hb]; exact heap_alloc_last w _
  have hcb : ∀ W, Below W0.heap.size W0 W → W.cell? ⟨b, 0, none⟩ = some (.string B0) ∧ W.cell? ⟨b, 1, none⟩ = some (.string B1) ∧ W.cell? ⟨b, 2, none⟩ = some (.string B2) ∧ W.cell? ⟨b, 3, none⟩ = some (.string B3) ∧ W.cell? ⟨b, 4, none⟩ = some (.string B4) ∧ W.cell? ⟨b, 5, none⟩ = some (.string B5) ∧ W.cell? ⟨b, 6, none⟩ = some (.string B6) ∧ W.cell? ⟨b, 7, none⟩ = some (.int .i64 x.fStage) ∧ W.cell? ⟨b, 8, none⟩ = some (.string B8) ∧ W.cell? ⟨b, 9, none⟩ = some (.string B9) ∧ W.cell? ⟨b, 10, none⟩ = some (.string B10) ∧ W.cell? ⟨b, 11, none⟩ = some (.int .i64 x.fEnds) := fun W hb => by
    have k := blk_below k0 hb
    exact ⟨cell_here k, cell_here k, cell_here k, cell_here k, cell_here k, cell_here k, cell_here k, cell_here k, cell_here k, cell_here k, cell_here k, cell_here k⟩
  have HTX := Lib.hid htx; have HC := Lib.hid hC; have HB0 := Lib.hid hb0; have HCB := Lib.hid hcb; have HW0 := Lib.hid hW0; have HB := Lib.hid hb
  have HD7 := Lib.hid hd7
  have HD11 := Lib.hid hd11
  clear htx hC hb0 hcb hW0 hb k0 hval hlen hd7 hD7 hd11 hD11 hB0 hB1 hB2 hB3 hB4 hB5 hB6 hB8 hB9 hB10
  go_enter Tryd.func19, Tryd.ntmps19
  go_upto_region 1 with fail
  rw [HW0.out, HB.out]
  refine wp_region_held_drew (S := (fun W => W.cell? ⟨b, 0, none⟩ = some (.string B0) ∧ W.cell? ⟨b, 1, none⟩ = some (.string B1) ∧ W.cell? ⟨b, 2, none⟩ = some (.string B2) ∧ W.cell? ⟨b, 3, none⟩ = some (.string B3) ∧ W.cell? ⟨b, 4, none⟩ = some (.string B4) ∧ W.cell? ⟨b, 5, none⟩ = some (.string B5) ∧ W.cell? ⟨b, 6, none⟩ = some (.string B6) ∧ W.cell? ⟨b, 7, none⟩ = some (.int .i64 x.fStage) ∧ W.cell? ⟨b, 8, none⟩ = some (.string B8) ∧ W.cell? ⟨b, 9, none⟩ = some (.string B9) ∧ W.cell? ⟨b, 10, none⟩ = some (.string B10) ∧ W.cell? ⟨b, 11, none⟩ = some (.int .i64 x.fEnds))) (by kernel_rfl) (HCB.out _ (Below.refl _ _).drew) (fun hHeld => ?_)
  refine wpAnyH_take (i := 0) (oi := _) (v := ?v1) (by simp only [List.getElem?_toArray, List.getElem?_cons_succ, List.getElem?_cons_zero]; rfl) (by kernel_rfl) (by kernel_rfl) (by kernel_rfl) (by exact fun _ _ _ h => h) (Or.inl ⟨by rfl, ?hy1⟩) (by assumption) ?rest1
  case hy1 => (intro w hSw; (try dsimp only at hSw); go_simp; try with_reducible rfl)
  try simp only [Act.put, List.setIfInBounds_toArray, List.set_cons_zero, List.set_cons_succ]
  refine wpAnyH_take (i := 1) (oi := _) (v := ?v2) (by simp only [List.getElem?_toArray, List.getElem?_cons_succ, List.getElem?_cons_zero]; rfl) (by kernel_rfl) (by kernel_rfl) (by kernel_rfl) (by exact fun _ _ _ h => h) (Or.inl ⟨by rfl, ?hy2⟩) (by assumption) ?rest2
  case hy2 => (intro w hSw; (try dsimp only at hSw); go_simp; try with_reducible rfl)
  try simp only [Act.put, List.setIfInBounds_toArray, List.set_cons_zero, List.set_cons_succ]
  refine wpAnyH_take (i := 2) (oi := _) (v := ?v3) (by simp only [List.getElem?_toArray, List.getElem?_cons_succ, List.getElem?_cons_zero]; rfl) (by kernel_rfl) (by kernel_rfl) (by kernel_rfl) (by exact fun _ _ _ h => h) (Or.inl ⟨by rfl, ?hy3⟩) (by assumption) ?rest3
  case hy3 => (intro w hSw; (try dsimp only at hSw); go_simp; try with_reducible rfl)
  try simp only [Act.put, List.setIfInBounds_toArray, List.set_cons_zero, List.set_cons_succ]
  refine wpAnyH_take (i := 3) (oi := _) (v := ?v4) (by simp only [List.getElem?_toArray, List.getElem?_cons_succ, List.getElem?_cons_zero]; rfl) (by kernel_rfl) (by kernel_rfl) (by kernel_rfl) (by exact fun _ _ _ h => h) (Or.inl ⟨by rfl, ?hy4⟩) (by assumption) ?rest4
  case hy4 => (intro w hSw; (try dsimp only at hSw); go_simp; try with_reducible rfl)
  try simp only [Act.put, List.setIfInBounds_toArray, List.set_cons_zero, List.set_cons_succ]
  refine wpAnyH_take (i := 4) (oi := _) (v := ?v5) (by simp only [List.getElem?_toArray, List.getElem?_cons_succ, List.getElem?_cons_zero]; rfl) (by kernel_rfl) (by kernel_rfl) (by kernel_rfl) (by exact fun _ _ _ h => h) (Or.inl ⟨by rfl, ?hy5⟩) (by assumption) ?rest5
  case hy5 => (intro w hSw; (try dsimp only at hSw); go_simp; try with_reducible rfl)
  try simp only [Act.put, List.setIfInBounds_toArray, List.set_cons_zero, List.set_cons_succ]
  refine wpAnyH_take (i := 5) (oi := _) (v := ?v6) (by simp only [List.getElem?_toArray, List.getElem?_cons_succ, List.getElem?_cons_zero]; rfl) (by kernel_rfl) (by kernel_rfl) (by kernel_rfl) (by exact fun _ _ _ h => h) (Or.inl ⟨by rfl, ?hy6⟩) (by assumption) ?rest6
  case hy6 => (intro w hSw; (try dsimp only at hSw); go_simp; try with_reducible rfl)
  try simp only [Act.put, List.setIfInBounds_toArray, List.set_cons_zero, List.set_cons_succ]
  refine wpAnyH_take (i := 6) (oi := _) (v := ?v7) (by simp only [List.getElem?_toArray, List.getElem?_cons_succ, List.getElem?_cons_zero]; rfl) (by kernel_rfl) (by kernel_rfl) (by kernel_rfl) (by exact fun _ _ _ h => h) (Or.inl ⟨by rfl, ?hy7⟩) (by assumption) ?rest7
  case hy7 => (intro w hSw; (try dsimp only at hSw); go_simp; try with_reducible rfl)
  try simp only [Act.put, List.setIfInBounds_toArray, List.set_cons_zero, List.set_cons_succ]
  refine wpAnyH_take (i := 7) (oi := _) (v := ?v8) (by simp only [List.getElem?_toArray, List.getElem?_cons_succ, List.getElem?_cons_zero]; rfl) (by kernel_rfl) (by kernel_rfl) (by kernel_rfl) (by exact fun _ _ _ h => h) (Or.inl ⟨by rfl, ?hy8⟩) (by assumption) ?rest8
  case hy8 => (intro w hSw; (try dsimp only at hSw); go_simp; try with_reducible rfl)
  try simp only [Act.put, List.setIfInBounds_toArray, List.set_cons_zero, List.set_cons_succ]
  refine wpAnyH_take (i := 8) (oi := _) (v := ?v9) (by simp only [List.getElem?_toArray, List.getElem?_cons_succ, List.getElem?_cons_zero]; rfl) (by kernel_rfl) (by kernel_rfl) (by kernel_rfl) (by exact fun _ _ _ h => h) (Or.inl ⟨by rfl, ?hy9⟩) (by assumption) ?rest9
  case hy9 => (intro w hSw; (try dsimp only at hSw); go_simp; try with_reducible rfl)
  try simp only [Act.put, List.setIfInBounds_toArray, List.set_cons_zero, List.set_cons_succ]
  refine wpAnyH_take (i := 9) (oi := _) (v := ?v10) (by simp only [List.getElem?_toArray, List.getElem?_cons_succ, List.getElem?_cons_zero]; rfl) (by kernel_rfl) (by kernel_rfl) (by kernel_rfl) (by exact fun _ _ _ h => h) (Or.inl ⟨by rfl, ?hy10⟩) (by assumption) ?rest10
  case hy10 => (intro w hSw; (try dsimp only at hSw); go_simp; try with_reducible rfl)
  try simp only [Act.put, List.setIfInBounds_toArray, List.set_cons_zero, List.set_cons_succ]
  refine wpAnyH_take (i := 10) (oi := _) (v := ?v11) (by simp only [List.getElem?_toArray, List.getElem?_cons_succ, List.getElem?_cons_zero]; rfl) (by kernel_rfl) (by kernel_rfl) (by kernel_rfl) (by exact fun _ _ _ h => h) (Or.inl ⟨by rfl, ?hy11⟩) (by assumption) ?rest11
  case hy11 => (intro w hSw; (try dsimp only at hSw); go_simp; try with_reducible rfl)
  try simp only [Act.put, List.setIfInBounds_toArray, List.set_cons_zero, List.set_cons_succ]
  refine wpAnyH_take (i := 11) (oi := _) (v := ?v12) (by simp only [List.getElem?_toArray, List.getElem?_cons_succ, List.getElem?_cons_zero]; rfl) (by kernel_rfl) (by kernel_rfl) (by kernel_rfl) (by exact fun _ _ _ h => h) (Or.inl ⟨by rfl, ?hy12⟩) (by assumption) ?rest12
  case hy12 => (intro w hSw; (try dsimp only at hSw); go_simp; try with_reducible rfl)
  try simp only [Act.put, List.setIfInBounds_toArray, List.set_cons_zero, List.set_cons_succ]
  refine wpAnyH_take (i := 12) (oi := _) (v := ?v13) (by simp only [List.getElem?_toArray, List.getElem?_cons_succ, List.getElem?_cons_zero]; rfl) (by kernel_rfl) (by kernel_rfl) (by kernel_rfl) (by exact fun _ _ _ h => h) (Or.inl ⟨by rfl, ?hy13⟩) (by assumption) ?rest13
  case hy13 => (intro w hSw; (try dsimp only at hSw); go_simp; try with_reducible rfl)
  try simp only [Act.put, List.setIfInBounds_toArray, List.set_cons_zero, List.set_cons_succ]
  refine wpAnyH_take (i := 13) (oi := _) (v := ?v14) (by simp only [List.getElem?_toArray, List.getElem?_cons_succ, List.getElem?_cons_zero]; rfl) (by kernel_rfl) (by kernel_rfl) (by kernel_rfl) (by exact fun _ _ _ h => h) (Or.inl ⟨by rfl, ?hy14⟩) (by assumption) ?rest14
  case hy14 => (intro w hSw; (try dsimp only at hSw); go_simp; try with_reducible rfl)
  try simp only [Act.put, List.setIfInBounds_toArray, List.set_cons_zero, List.set_cons_succ]
  refine wpAnyH_take (i := 14) (oi := _) (v := ?v15) (by simp only [List.getElem?_toArray, List.getElem?_cons_succ, List.getElem?_cons_zero]; rfl) (by kernel_rfl) (by kernel_rfl) (by kernel_rfl) (by exact fun _ _ _ h => h) (Or.inl ⟨by rfl, ?hy15⟩) (by assumption) ?rest15
  case hy15 => (intro w hSw; (try dsimp only at hSw); go_simp; try with_reducible rfl)
  try simp only [Act.put, List.setIfInBounds_toArray, List.set_cons_zero, List.set_cons_succ]
  refine wpAnyH_take (i := 15) (oi := _) (v := ?v16) (by simp only [List.getElem?_toArray, List.getElem?_cons_succ, List.getElem?_cons_zero]; rfl) (by kernel_rfl) (by kernel_rfl) (by kernel_rfl) (by exact fun _ _ _ h => h) (Or.inl ⟨by rfl, ?hy16⟩) (by assumption) ?rest16
  case hy16 => (intro w hSw; (try dsimp only at hSw); go_simp; try with_reducible rfl)
  try simp only [Act.put, List.setIfInBounds_toArray, List.set_cons_zero, List.set_cons_succ]
  refine wpAnyH_take (i := 17) (oi := _) (v := ?v17) (by simp only [List.getElem?_toArray, List.getElem?_cons_succ, List.getElem?_cons_zero]; rfl) (by kernel_rfl) (by kernel_rfl) (by kernel_rfl) (by exact fun _ _ _ h => h) (Or.inl ⟨by rfl, ?hy17⟩) (by assumption) ?rest17
  case hy17 => (intro w hSw; (try dsimp only at hSw); go_simp; try with_reducible rfl)
  try simp only [Act.put, List.setIfInBounds_toArray, List.set_cons_zero, List.set_cons_succ]
  refine wpAnyH_take (i := 18) (oi := _) (v := ?v18) (by simp only [List.getElem?_toArray, List.getElem?_cons_succ, List.getElem?_cons_zero]; rfl) (by kernel_rfl) (by kernel_rfl) (by kernel_rfl) (by exact fun _ _ _ h => h) (Or.inl ⟨by rfl, ?hy18⟩) (by assumption) ?rest18
  case hy18 => (intro w hSw; (try dsimp only at hSw); go_simp; try with_reducible rfl)
  try simp only [Act.put, List.setIfInBounds_toArray, List.set_cons_zero, List.set_cons_succ]
  refine wpAnyH_take (i := 19) (oi := _) (v := ?v19) (by simp only [List.getElem?_toArray, List.getElem?_cons_succ, List.getElem?_cons_zero]; rfl) (by kernel_rfl) (by kernel_rfl) (by kernel_rfl) (by exact fun _ _ _ h => h) (Or.inl ⟨by rfl, ?hy19⟩) (by assumption) ?rest19
  case hy19 => (intro w hSw; (try dsimp only at hSw); go_simp; try with_reducible rfl)
  try simp only [Act.put, List.setIfInBounds_toArray, List.set_cons_zero, List.set_cons_succ]
  refine wpAnyH_take (i := 20) (oi := _) (v := ?v20) (by simp only [List.getElem?_toArray, List.getElem?_cons_succ, List.getElem?_cons_zero]; rfl) (by kernel_rfl) (by kernel_rfl) (by kernel_rfl) (by exact fun _ _ _ h => h) (Or.inl ⟨by rfl, ?hy20⟩) (by assumption) ?rest20
  case hy20 => (intro w hSw; (try dsimp only at hSw); go_simp; try with_reducible rfl)
  try simp only [Act.put, List.setIfInBounds_toArray, List.set_cons_zero, List.set_cons_succ]
  refine wpAnyH_take (i := 21) (oi := _) (v := ?v21) (by simp only [List.getElem?_toArray, List.getElem?_cons_succ, List.getElem?_cons_zero]; rfl) (by kernel_rfl) (by kernel_rfl) (by kernel_rfl) (by exact fun _ _ _ h => h) (Or.inl ⟨by rfl, ?hy21⟩) (by assumption) ?rest21
  case hy21 => (intro w hSw; (try dsimp only at hSw); go_simp; try with_reducible rfl)
  try simp only [Act.put, List.setIfInBounds_toArray, List.set_cons_zero, List.set_cons_succ]
  refine wpAnyH_take (i := 22) (oi := _) (v := ?v22) (by simp only [List.getElem?_toArray, List.getElem?_cons_succ, List.getElem?_cons_zero]; rfl) (by kernel_rfl) (by kernel_rfl) (by kernel_rfl) (by exact fun _ _ _ h => h) (Or.inl ⟨by rfl, ?hy22⟩) (by assumption) ?rest22
  case hy22 => (intro w hSw; (try dsimp only at hSw); go_simp; try with_reducible rfl)
  try simp only [Act.put, List.setIfInBounds_toArray, List.set_cons_zero, List.set_cons_succ]
  refine wpAnyH_take (i := 23) (oi := _) (v := ?v23) (by simp only [List.getElem?_toArray, List.getElem?_cons_succ, List.getElem?_cons_zero]; rfl) (by kernel_rfl) (by kernel_rfl) (by kernel_rfl) (by exact fun _ _ _ h => h) (Or.inl ⟨by rfl, ?hy23⟩) (by assumption) ?rest23
  case hy23 => (intro w hSw; (try dsimp only at hSw); go_simp; try with_reducible rfl)
  try simp only [Act.put, List.setIfInBounds_toArray, List.set_cons_zero, List.set_cons_succ]
  refine wpAnyH_take (i := 24) (oi := _) (v := ?v24) (by simp only [List.getElem?_toArray, List.getElem?_cons_succ, List.getElem?_cons_zero]; rfl) (by kernel_rfl) (by kernel_rfl) (by kernel_rfl) (by exact fun _ _ _ h => h) (Or.inl ⟨by rfl, ?hy24⟩) (by assumption) ?rest24
  case hy24 => (intro w hSw; (try dsimp only at hSw); go_simp; try with_reducible rfl)
  try simp only [Act.put, List.setIfInBounds_toArray, List.set_cons_zero, List.set_cons_succ]
  refine wpAnyH_ready (rs := [16]) (by kernel_rfl) (by simp) ?_
  refine AllReadyH.cons (o := _) (by simp only [List.getElem?_toArray, List.getElem?_cons_succ, List.getElem?_cons_zero]; rfl) (fun K hK => ?_) AllReadyH.nil
  go_simp
  go_at_call 33
  (with_reducible refine (HD7.out _).mono ?_)
  rintro e w1 ⟨rfl, hb1⟩
  have Q1 := Lib.hid ((Below.refl W0.heap.size W0).drew.chain hb1); clear hb1
  dsimp only
  refine hK.out _ _ (HCB.out _ Q1.out) (fun hHeld => ?_)
  clear hK K
  try simp only [Act.put, List.setIfInBounds_toArray, List.set_cons_zero, List.set_cons_succ]
  refine wpAnyH_ready (rs := [25]) (by kernel_rfl) (by simp) ?_
  refine AllReadyH.cons (o := _) (by simp only [List.getElem?_toArray, List.getElem?_cons_succ, List.getElem?_cons_zero]; rfl) (fun K hK => ?_) AllReadyH.nil
  go_simp
  go_at_call 33
  (with_reducible refine (HD11.out _).mono ?_)
  rintro e w2 ⟨rfl, hb2⟩
  have Q2 := Lib.hid (Q1.out.chain hb2); clear hb2
  dsimp only
  refine hK.out _ _ (HCB.out _ Q2.out) (fun hHeld => ?_)
  clear hK K
  try simp only [Act.put, List.setIfInBounds_toArray, List.set_cons_zero, List.set_cons_succ]
  refine wpAnyH_ready (rs := [26]) (by kernel_rfl) (by simp) ?_
  refine AllReadyH.cons (o := _) (by simp only [List.getElem?_toArray, List.getElem?_cons_succ, List.getElem?_cons_zero]; rfl) (fun K hK => ?_) AllReadyH.nil
  go_simp
  have Q9 := Lib.hid (Q2.out.alloc Q2.out.size (.cells #[.string B0, .string B1, .string B2, .string B3, .string B4, .string B5, .string B6, .string D7, .string B8, .string B9, .string B10, .string D11] 9))
  have K9 := Lib.hid (heap_alloc_last w2 (.cells #[.string B0, .string B1, .string B2, .string B3, .string B4, .string B5, .string B6, .string D7, .string B8, .string B9, .string B10, .string D11] 9))
  refine hK.out _ _ (HCB.out _ Q9.out) (fun hHeld => ?_)
  clear hK K
  try simp only [Act.put, List.setIfInBounds_toArray, List.set_cons_zero, List.set_cons_succ]
  refine wpAnyH_ready (rs := [27]) (by kernel_rfl) (by simp) ?_
  refine AllReadyH.cons (o := _) (by simp only [List.getElem?_toArray, List.getElem?_cons_succ, List.getElem?_cons_zero]; rfl) (fun K hK => ?_) AllReadyH.nil
  go_simp
  go_at_call 14
  (with_reducible refine (HTX.out _ _ (rdt_new K9.out (by rw [HC.out]))).mono ?_)
  rintro e w8 ⟨rfl, hb8⟩
  have Q8 := Lib.hid (Q9.out.chain hb8); clear hb8
  dsimp only
  refine hK.out _ _ (HCB.out _ Q8.out) (fun hHeld => ?_)
  clear hK K
  try simp only [Act.put, List.setIfInBounds_toArray, List.set_cons_zero, List.set_cons_succ]
  refine wpAnyH_take (i := 28) (oi := _) (v := ?v29) (by simp only [List.getElem?_toArray, List.getElem?_cons_succ, List.getElem?_cons_zero]; rfl) (by kernel_rfl) (by kernel_rfl) (by kernel_rfl) (by exact fun _ _ _ h => h) (Or.inl ⟨by rfl, ?hy29⟩) (by assumption) ?rest29
  case hy29 => (intro w hSw; (try dsimp only at hSw); go_simp; try with_reducible rfl)
  try simp only [Act.put, List.setIfInBounds_toArray, List.set_cons_zero, List.set_cons_succ]
  refine wpAnyH_done (by kernel_rfl) ?_ _
  go_wp2
  go_ret
  exact ⟨rfl, HB0.out.chain Q8.out⟩
set_option maxRecDepth 100000 in
set_option maxHeartbeats 4000000 in
theorem refCode13_any (x : Cod) (hx : x.ok) (hl : (textsL x.texts).length ≤ 1000000000) (w : World) :
    Calls Tryd.prog 22 #[x.val] w fun e w' => e = .returned (tv (textsL x.texts)) ∧ Below w.heap.size w w' := by
  have htx := fun (W : World) (R : Nat) (h : RdT W (.slice (some ⟨R, 0, none⟩) x.texts.length x.texts.length) x.texts) => refTexts13_any (some ⟨R, 0, none⟩) x.texts.length x.texts hl W h
  have hd11 := fun W => dec_back x.fEnds hx W
  obtain ⟨D11, hD11⟩ : ∃ B : ByteArray, B = ⟨(decI x.fEnds).toArray⟩ := ⟨_, rfl⟩
  unfold tv at hd11
  rw [← hD11] at hd11
  obtain ⟨B0, hB0⟩ : ∃ B : ByteArray, B = ⟨x.fCode.toArray⟩ := ⟨_, rfl⟩
  obtain ⟨B1, hB1⟩ : ∃ B : ByteArray, B = ⟨x.fClient.toArray⟩ := ⟨_, rfl⟩
  obtain ⟨B2, hB2⟩ : ∃ B : ByteArray, B = ⟨x.fRedirect.toArray⟩ := ⟨_, rfl⟩
  obtain ⟨B3, hB3⟩ : ∃ B : ByteArray, B = ⟨x.fChallenge.toArray⟩ := ⟨_, rfl⟩
  obtain ⟨B4, hB4⟩ : ∃ B : ByteArray, B = ⟨x.fNonce.toArray⟩ := ⟨_, rfl⟩
  obtain ⟨B5, hB5⟩ : ∃ B : ByteArray, B = ⟨x.fScope.toArray⟩ := ⟨_, rfl⟩
  obtain ⟨B6, hB6⟩ : ∃ B : ByteArray, B = ⟨x.fUser.toArray⟩ := ⟨_, rfl⟩
  obtain ⟨B7, hB7⟩ : ∃ B : ByteArray, B = ⟨x.fConn.toArray⟩ := ⟨_, rfl⟩
  obtain ⟨B8, hB8⟩ : ∃ B : ByteArray, B = ⟨x.fSub.toArray⟩ := ⟨_, rfl⟩
  obtain ⟨B9, hB9⟩ : ∃ B : ByteArray, B = ⟨x.fClaims.toArray⟩ := ⟨_, rfl⟩
  obtain ⟨B10, hB10⟩ : ∃ B : ByteArray, B = ⟨x.fRefresh.toArray⟩ := ⟨_, rfl⟩
  obtain ⟨B12, hB12⟩ : ∃ B : ByteArray, B = ⟨x.fFamily.toArray⟩ := ⟨_, rfl⟩
  have hC : tcells x.texts = [.string B0, .string B1, .string B2, .string B3, .string B4, .string B5, .string B6, .string B7, .string B8, .string B9, .string B10, .string D11, .string B12] := by
    rw [hB0, hB1, hB2, hB3, hB4, hB5, hB6, hB7, hB8, hB9, hB10, hD11, hB12]; rfl
  have hval : x.val = .agg #[.string B0, .string B1, .string B2, .string B3, .string B4, .string B5, .string B6, .string B7, .string B8, .string B9, .string B10, .int .i64 x.fEnds, .string B12] := by
    rw [hB0, hB1, hB2, hB3, hB4, hB5, hB6, hB7, hB8, hB9, hB10, hB12]; rfl
  have hlen : x.texts.length = 13 := rfl
  rw [hlen] at htx
  rw [hval]
  obtain ⟨b, hb⟩ : ∃ b, w.heap.size = b := ⟨_, rfl⟩
  obtain ⟨W0, hW0⟩ : ∃ W, w.alloc (.cells #[.string B0, .string B1, .string B2, .string B3, .string B4, .string B5, .string B6, .string B7, .string B8, .string B9, .string B10, .int .i64 x.fEnds, .string B12] 41) = W := ⟨_, rfl⟩
  have hb0 : Below w.heap.size w W0 := by rw [← hW0]; exact (Below.refl _ _).alloc (Nat.le_refl _) _
  have k0 : W0.heap[b]? = some (.cells #[.string B0, .string B1, .string B2, .string B3, .string B4, .string B5, .string B6, .string B7, .string B8, .string B9, .string B10, .int .i64 x.fEnds, .string B12] 41) := by rw [← hW0, ← hb]; exact heap_alloc_last w _
  have hcb : ∀ W, Below W0.heap.size W0 W → W.cell? ⟨b, 0, none⟩ = some (.string B0) ∧ W.cell? ⟨b, 1, none⟩ = some (.string B1) ∧ W.cell? ⟨b, 2, none⟩ = some (.string B2) ∧ W.cell? ⟨b, 3, none⟩ = some (.string B3) ∧ W.cell? ⟨b, 4, none⟩ = some (.string B4) ∧ W.cell? ⟨b, 5, none⟩ = some (.string B5) ∧ W.cell? ⟨b, 6, none⟩ = some (.string B6) ∧ W.cell? ⟨b, 7, none⟩ = some (.string B7) ∧ W.cell? ⟨b, 8, none⟩ = some (.string B8) ∧ W.cell? ⟨b, 9, none⟩ = some (.string B9) ∧ W.cell? ⟨b, 10, none⟩ = some (.string B10) ∧ W.cell? ⟨b, 11, none⟩ = some (.int .i64 x.fEnds) ∧ W.cell? ⟨b, 12, none⟩ = some (.string B12) := fun W hb => by
    have k := blk_below k0 hb
    exact ⟨cell_here k, cell_here k, cell_here k, cell_here k, cell_here k, cell_here k, cell_here k, cell_here k, cell_here k, cell_here k, cell_here k, cell_here k, cell_here k⟩
  have HTX := Lib.hid htx; have HC := Lib.hid hC; have HB0 := Lib.hid hb0; have HCB := Lib.hid hcb; have HW0 := Lib.hid hW0; have HB := Lib.hid hb
  have HD11 := Lib.hid hd11
  clear htx hC hb0 hcb hW0 hb k0 hval hlen hd11 hD11 hB0 hB1 hB2 hB3 hB4 hB5 hB6 hB7 hB8 hB9 hB10 hB12
  go_enter Tryd.func22, Tryd.ntmps22
  go_upto_region 1 with fail
  rw [HW0.out, HB.out]
  refine wp_region_held_drew (S := (fun W => W.cell? ⟨b, 0, none⟩ = some (.string B0) ∧ W.cell? ⟨b, 1, none⟩ = some (.string B1) ∧ W.cell? ⟨b, 2, none⟩ = some (.string B2) ∧ W.cell? ⟨b, 3, none⟩ = some (.string B3) ∧ W.cell? ⟨b, 4, none⟩ = some (.string B4) ∧ W.cell? ⟨b, 5, none⟩ = some (.string B5) ∧ W.cell? ⟨b, 6, none⟩ = some (.string B6) ∧ W.cell? ⟨b, 7, none⟩ = some (.string B7) ∧ W.cell? ⟨b, 8, none⟩ = some (.string B8) ∧ W.cell? ⟨b, 9, none⟩ = some (.string B9) ∧ W.cell? ⟨b, 10, none⟩ = some (.string B10) ∧ W.cell? ⟨b, 11, none⟩ = some (.int .i64 x.fEnds) ∧ W.cell? ⟨b, 12, none⟩ = some (.string B12))) (by kernel_rfl) (HCB.out _ (Below.refl _ _).drew) (fun hHeld => ?_)
  refine wpAnyH_take (i := 0) (oi := _) (v := ?v1) (by simp only [List.getElem?_toArray, List.getElem?_cons_succ, List.getElem?_cons_zero]; rfl) (by kernel_rfl) (by kernel_rfl) (by kernel_rfl) (by exact fun _ _ _ h => h) (Or.inl ⟨by rfl, ?hy1⟩) (by assumption) ?rest1
  case hy1 => (intro w hSw; (try dsimp only at hSw); go_simp; try with_reducible rfl)
  try simp only [Act.put, List.setIfInBounds_toArray, List.set_cons_zero, List.set_cons_succ]
  refine wpAnyH_take (i := 1) (oi := _) (v := ?v2) (by simp only [List.getElem?_toArray, List.getElem?_cons_succ, List.getElem?_cons_zero]; rfl) (by kernel_rfl) (by kernel_rfl) (by kernel_rfl) (by exact fun _ _ _ h => h) (Or.inl ⟨by rfl, ?hy2⟩) (by assumption) ?rest2
  case hy2 => (intro w hSw; (try dsimp only at hSw); go_simp; try with_reducible rfl)
  try simp only [Act.put, List.setIfInBounds_toArray, List.set_cons_zero, List.set_cons_succ]
  refine wpAnyH_take (i := 2) (oi := _) (v := ?v3) (by simp only [List.getElem?_toArray, List.getElem?_cons_succ, List.getElem?_cons_zero]; rfl) (by kernel_rfl) (by kernel_rfl) (by kernel_rfl) (by exact fun _ _ _ h => h) (Or.inl ⟨by rfl, ?hy3⟩) (by assumption) ?rest3
  case hy3 => (intro w hSw; (try dsimp only at hSw); go_simp; try with_reducible rfl)
  try simp only [Act.put, List.setIfInBounds_toArray, List.set_cons_zero, List.set_cons_succ]
  refine wpAnyH_take (i := 3) (oi := _) (v := ?v4) (by simp only [List.getElem?_toArray, List.getElem?_cons_succ, List.getElem?_cons_zero]; rfl) (by kernel_rfl) (by kernel_rfl) (by kernel_rfl) (by exact fun _ _ _ h => h) (Or.inl ⟨by rfl, ?hy4⟩) (by assumption) ?rest4
  case hy4 => (intro w hSw; (try dsimp only at hSw); go_simp; try with_reducible rfl)
  try simp only [Act.put, List.setIfInBounds_toArray, List.set_cons_zero, List.set_cons_succ]
  refine wpAnyH_take (i := 4) (oi := _) (v := ?v5) (by simp only [List.getElem?_toArray, List.getElem?_cons_succ, List.getElem?_cons_zero]; rfl) (by kernel_rfl) (by kernel_rfl) (by kernel_rfl) (by exact fun _ _ _ h => h) (Or.inl ⟨by rfl, ?hy5⟩) (by assumption) ?rest5
  case hy5 => (intro w hSw; (try dsimp only at hSw); go_simp; try with_reducible rfl)
  try simp only [Act.put, List.setIfInBounds_toArray, List.set_cons_zero, List.set_cons_succ]
  refine wpAnyH_take (i := 5) (oi := _) (v := ?v6) (by simp only [List.getElem?_toArray, List.getElem?_cons_succ, List.getElem?_cons_zero]; rfl) (by kernel_rfl) (by kernel_rfl) (by kernel_rfl) (by exact fun _ _ _ h => h) (Or.inl ⟨by rfl, ?hy6⟩) (by assumption) ?rest6
  case hy6 => (intro w hSw; (try dsimp only at hSw); go_simp; try with_reducible rfl)
  try simp only [Act.put, List.setIfInBounds_toArray, List.set_cons_zero, List.set_cons_succ]
  refine wpAnyH_take (i := 6) (oi := _) (v := ?v7) (by simp only [List.getElem?_toArray, List.getElem?_cons_succ, List.getElem?_cons_zero]; rfl) (by kernel_rfl) (by kernel_rfl) (by kernel_rfl) (by exact fun _ _ _ h => h) (Or.inl ⟨by rfl, ?hy7⟩) (by assumption) ?rest7
  case hy7 => (intro w hSw; (try dsimp only at hSw); go_simp; try with_reducible rfl)
  try simp only [Act.put, List.setIfInBounds_toArray, List.set_cons_zero, List.set_cons_succ]
  refine wpAnyH_take (i := 7) (oi := _) (v := ?v8) (by simp only [List.getElem?_toArray, List.getElem?_cons_succ, List.getElem?_cons_zero]; rfl) (by kernel_rfl) (by kernel_rfl) (by kernel_rfl) (by exact fun _ _ _ h => h) (Or.inl ⟨by rfl, ?hy8⟩) (by assumption) ?rest8
  case hy8 => (intro w hSw; (try dsimp only at hSw); go_simp; try with_reducible rfl)
  try simp only [Act.put, List.setIfInBounds_toArray, List.set_cons_zero, List.set_cons_succ]
  refine wpAnyH_take (i := 8) (oi := _) (v := ?v9) (by simp only [List.getElem?_toArray, List.getElem?_cons_succ, List.getElem?_cons_zero]; rfl) (by kernel_rfl) (by kernel_rfl) (by kernel_rfl) (by exact fun _ _ _ h => h) (Or.inl ⟨by rfl, ?hy9⟩) (by assumption) ?rest9
  case hy9 => (intro w hSw; (try dsimp only at hSw); go_simp; try with_reducible rfl)
  try simp only [Act.put, List.setIfInBounds_toArray, List.set_cons_zero, List.set_cons_succ]
  refine wpAnyH_take (i := 9) (oi := _) (v := ?v10) (by simp only [List.getElem?_toArray, List.getElem?_cons_succ, List.getElem?_cons_zero]; rfl) (by kernel_rfl) (by kernel_rfl) (by kernel_rfl) (by exact fun _ _ _ h => h) (Or.inl ⟨by rfl, ?hy10⟩) (by assumption) ?rest10
  case hy10 => (intro w hSw; (try dsimp only at hSw); go_simp; try with_reducible rfl)
  try simp only [Act.put, List.setIfInBounds_toArray, List.set_cons_zero, List.set_cons_succ]
  refine wpAnyH_take (i := 10) (oi := _) (v := ?v11) (by simp only [List.getElem?_toArray, List.getElem?_cons_succ, List.getElem?_cons_zero]; rfl) (by kernel_rfl) (by kernel_rfl) (by kernel_rfl) (by exact fun _ _ _ h => h) (Or.inl ⟨by rfl, ?hy11⟩) (by assumption) ?rest11
  case hy11 => (intro w hSw; (try dsimp only at hSw); go_simp; try with_reducible rfl)
  try simp only [Act.put, List.setIfInBounds_toArray, List.set_cons_zero, List.set_cons_succ]
  refine wpAnyH_take (i := 11) (oi := _) (v := ?v12) (by simp only [List.getElem?_toArray, List.getElem?_cons_succ, List.getElem?_cons_zero]; rfl) (by kernel_rfl) (by kernel_rfl) (by kernel_rfl) (by exact fun _ _ _ h => h) (Or.inl ⟨by rfl, ?hy12⟩) (by assumption) ?rest12
  case hy12 => (intro w hSw; (try dsimp only at hSw); go_simp; try with_reducible rfl)
  try simp only [Act.put, List.setIfInBounds_toArray, List.set_cons_zero, List.set_cons_succ]
  refine wpAnyH_take (i := 12) (oi := _) (v := ?v13) (by simp only [List.getElem?_toArray, List.getElem?_cons_succ, List.getElem?_cons_zero]; rfl) (by kernel_rfl) (by kernel_rfl) (by kernel_rfl) (by exact fun _ _ _ h => h) (Or.inl ⟨by rfl, ?hy13⟩) (by assumption) ?rest13
  case hy13 => (intro w hSw; (try dsimp only at hSw); go_simp; try with_reducible rfl)
  try simp only [Act.put, List.setIfInBounds_toArray, List.set_cons_zero, List.set_cons_succ]
  refine wpAnyH_take (i := 13) (oi := _) (v := ?v14) (by simp only [List.getElem?_toArray, List.getElem?_cons_succ, List.getElem?_cons_zero]; rfl) (by kernel_rfl) (by kernel_rfl) (by kernel_rfl) (by exact fun _ _ _ h => h) (Or.inl ⟨by rfl, ?hy14⟩) (by assumption) ?rest14
  case hy14 => (intro w hSw; (try dsimp only at hSw); go_simp; try with_reducible rfl)
  try simp only [Act.put, List.setIfInBounds_toArray, List.set_cons_zero, List.set_cons_succ]
  refine wpAnyH_take (i := 14) (oi := _) (v := ?v15) (by simp only [List.getElem?_toArray, List.getElem?_cons_succ, List.getElem?_cons_zero]; rfl) (by kernel_rfl) (by kernel_rfl) (by kernel_rfl) (by exact fun _ _ _ h => h) (Or.inl ⟨by rfl, ?hy15⟩) (by assumption) ?rest15
  case hy15 => (intro w hSw; (try dsimp only at hSw); go_simp; try with_reducible rfl)
  try simp only [Act.put, List.setIfInBounds_toArray, List.set_cons_zero, List.set_cons_succ]
  refine wpAnyH_take (i := 15) (oi := _) (v := ?v16) (by simp only [List.getElem?_toArray, List.getElem?_cons_succ, List.getElem?_cons_zero]; rfl) (by kernel_rfl) (by kernel_rfl) (by kernel_rfl) (by exact fun _ _ _ h => h) (Or.inl ⟨by rfl, ?hy16⟩) (by assumption) ?rest16
  case hy16 => (intro w hSw; (try dsimp only at hSw); go_simp; try with_reducible rfl)
  try simp only [Act.put, List.setIfInBounds_toArray, List.set_cons_zero, List.set_cons_succ]
  refine wpAnyH_take (i := 16) (oi := _) (v := ?v17) (by simp only [List.getElem?_toArray, List.getElem?_cons_succ, List.getElem?_cons_zero]; rfl) (by kernel_rfl) (by kernel_rfl) (by kernel_rfl) (by exact fun _ _ _ h => h) (Or.inl ⟨by rfl, ?hy17⟩) (by assumption) ?rest17
  case hy17 => (intro w hSw; (try dsimp only at hSw); go_simp; try with_reducible rfl)
  try simp only [Act.put, List.setIfInBounds_toArray, List.set_cons_zero, List.set_cons_succ]
  refine wpAnyH_take (i := 17) (oi := _) (v := ?v18) (by simp only [List.getElem?_toArray, List.getElem?_cons_succ, List.getElem?_cons_zero]; rfl) (by kernel_rfl) (by kernel_rfl) (by kernel_rfl) (by exact fun _ _ _ h => h) (Or.inl ⟨by rfl, ?hy18⟩) (by assumption) ?rest18
  case hy18 => (intro w hSw; (try dsimp only at hSw); go_simp; try with_reducible rfl)
  try simp only [Act.put, List.setIfInBounds_toArray, List.set_cons_zero, List.set_cons_succ]
  refine wpAnyH_take (i := 18) (oi := _) (v := ?v19) (by simp only [List.getElem?_toArray, List.getElem?_cons_succ, List.getElem?_cons_zero]; rfl) (by kernel_rfl) (by kernel_rfl) (by kernel_rfl) (by exact fun _ _ _ h => h) (Or.inl ⟨by rfl, ?hy19⟩) (by assumption) ?rest19
  case hy19 => (intro w hSw; (try dsimp only at hSw); go_simp; try with_reducible rfl)
  try simp only [Act.put, List.setIfInBounds_toArray, List.set_cons_zero, List.set_cons_succ]
  refine wpAnyH_take (i := 19) (oi := _) (v := ?v20) (by simp only [List.getElem?_toArray, List.getElem?_cons_succ, List.getElem?_cons_zero]; rfl) (by kernel_rfl) (by kernel_rfl) (by kernel_rfl) (by exact fun _ _ _ h => h) (Or.inl ⟨by rfl, ?hy20⟩) (by assumption) ?rest20
  case hy20 => (intro w hSw; (try dsimp only at hSw); go_simp; try with_reducible rfl)
  try simp only [Act.put, List.setIfInBounds_toArray, List.set_cons_zero, List.set_cons_succ]
  refine wpAnyH_take (i := 20) (oi := _) (v := ?v21) (by simp only [List.getElem?_toArray, List.getElem?_cons_succ, List.getElem?_cons_zero]; rfl) (by kernel_rfl) (by kernel_rfl) (by kernel_rfl) (by exact fun _ _ _ h => h) (Or.inl ⟨by rfl, ?hy21⟩) (by assumption) ?rest21
  case hy21 => (intro w hSw; (try dsimp only at hSw); go_simp; try with_reducible rfl)
  try simp only [Act.put, List.setIfInBounds_toArray, List.set_cons_zero, List.set_cons_succ]
  refine wpAnyH_take (i := 21) (oi := _) (v := ?v22) (by simp only [List.getElem?_toArray, List.getElem?_cons_succ, List.getElem?_cons_zero]; rfl) (by kernel_rfl) (by kernel_rfl) (by kernel_rfl) (by exact fun _ _ _ h => h) (Or.inl ⟨by rfl, ?hy22⟩) (by assumption) ?rest22
  case hy22 => (intro w hSw; (try dsimp only at hSw); go_simp; try with_reducible rfl)
  try simp only [Act.put, List.setIfInBounds_toArray, List.set_cons_zero, List.set_cons_succ]
  refine wpAnyH_take (i := 22) (oi := _) (v := ?v23) (by simp only [List.getElem?_toArray, List.getElem?_cons_succ, List.getElem?_cons_zero]; rfl) (by kernel_rfl) (by kernel_rfl) (by kernel_rfl) (by exact fun _ _ _ h => h) (Or.inl ⟨by rfl, ?hy23⟩) (by assumption) ?rest23
  case hy23 => (intro w hSw; (try dsimp only at hSw); go_simp; try with_reducible rfl)
  try simp only [Act.put, List.setIfInBounds_toArray, List.set_cons_zero, List.set_cons_succ]
  refine wpAnyH_take (i := 23) (oi := _) (v := ?v24) (by simp only [List.getElem?_toArray, List.getElem?_cons_succ, List.getElem?_cons_zero]; rfl) (by kernel_rfl) (by kernel_rfl) (by kernel_rfl) (by exact fun _ _ _ h => h) (Or.inl ⟨by rfl, ?hy24⟩) (by assumption) ?rest24
  case hy24 => (intro w hSw; (try dsimp only at hSw); go_simp; try with_reducible rfl)
  try simp only [Act.put, List.setIfInBounds_toArray, List.set_cons_zero, List.set_cons_succ]
  refine wpAnyH_take (i := 25) (oi := _) (v := ?v25) (by simp only [List.getElem?_toArray, List.getElem?_cons_succ, List.getElem?_cons_zero]; rfl) (by kernel_rfl) (by kernel_rfl) (by kernel_rfl) (by exact fun _ _ _ h => h) (Or.inl ⟨by rfl, ?hy25⟩) (by assumption) ?rest25
  case hy25 => (intro w hSw; (try dsimp only at hSw); go_simp; try with_reducible rfl)
  try simp only [Act.put, List.setIfInBounds_toArray, List.set_cons_zero, List.set_cons_succ]
  refine wpAnyH_take (i := 26) (oi := _) (v := ?v26) (by simp only [List.getElem?_toArray, List.getElem?_cons_succ, List.getElem?_cons_zero]; rfl) (by kernel_rfl) (by kernel_rfl) (by kernel_rfl) (by exact fun _ _ _ h => h) (Or.inl ⟨by rfl, ?hy26⟩) (by assumption) ?rest26
  case hy26 => (intro w hSw; (try dsimp only at hSw); go_simp; try with_reducible rfl)
  try simp only [Act.put, List.setIfInBounds_toArray, List.set_cons_zero, List.set_cons_succ]
  refine wpAnyH_ready (rs := [24]) (by kernel_rfl) (by simp) ?_
  refine AllReadyH.cons (o := _) (by simp only [List.getElem?_toArray, List.getElem?_cons_succ, List.getElem?_cons_zero]; rfl) (fun K hK => ?_) AllReadyH.nil
  go_simp
  go_at_call 33
  (with_reducible refine (HD11.out _).mono ?_)
  rintro e w1 ⟨rfl, hb1⟩
  have Q1 := Lib.hid ((Below.refl W0.heap.size W0).drew.chain hb1); clear hb1
  dsimp only
  refine hK.out _ _ (HCB.out _ Q1.out) (fun hHeld => ?_)
  clear hK K
  try simp only [Act.put, List.setIfInBounds_toArray, List.set_cons_zero, List.set_cons_succ]
  refine wpAnyH_ready (rs := [27]) (by kernel_rfl) (by simp) ?_
  refine AllReadyH.cons (o := _) (by simp only [List.getElem?_toArray, List.getElem?_cons_succ, List.getElem?_cons_zero]; rfl) (fun K hK => ?_) AllReadyH.nil
  go_simp
  have Q9 := Lib.hid (Q1.out.alloc Q1.out.size (.cells #[.string B0, .string B1, .string B2, .string B3, .string B4, .string B5, .string B6, .string B7, .string B8, .string B9, .string B10, .string D11, .string B12] 9))
  have K9 := Lib.hid (heap_alloc_last w1 (.cells #[.string B0, .string B1, .string B2, .string B3, .string B4, .string B5, .string B6, .string B7, .string B8, .string B9, .string B10, .string D11, .string B12] 9))
  refine hK.out _ _ (HCB.out _ Q9.out) (fun hHeld => ?_)
  clear hK K
  try simp only [Act.put, List.setIfInBounds_toArray, List.set_cons_zero, List.set_cons_succ]
  refine wpAnyH_ready (rs := [28]) (by kernel_rfl) (by simp) ?_
  refine AllReadyH.cons (o := _) (by simp only [List.getElem?_toArray, List.getElem?_cons_succ, List.getElem?_cons_zero]; rfl) (fun K hK => ?_) AllReadyH.nil
  go_simp
  go_at_call 14
  (with_reducible refine (HTX.out _ _ (rdt_new K9.out (by rw [HC.out]))).mono ?_)
  rintro e w8 ⟨rfl, hb8⟩
  have Q8 := Lib.hid (Q9.out.chain hb8); clear hb8
  dsimp only
  refine hK.out _ _ (HCB.out _ Q8.out) (fun hHeld => ?_)
  clear hK K
  try simp only [Act.put, List.setIfInBounds_toArray, List.set_cons_zero, List.set_cons_succ]
  refine wpAnyH_take (i := 29) (oi := _) (v := ?v30) (by simp only [List.getElem?_toArray, List.getElem?_cons_succ, List.getElem?_cons_zero]; rfl) (by kernel_rfl) (by kernel_rfl) (by kernel_rfl) (by exact fun _ _ _ h => h) (Or.inl ⟨by rfl, ?hy30⟩) (by assumption) ?rest30
  case hy30 => (intro w hSw; (try dsimp only at hSw); go_simp; try with_reducible rfl)
  try simp only [Act.put, List.setIfInBounds_toArray, List.set_cons_zero, List.set_cons_succ]
  refine wpAnyH_done (by kernel_rfl) ?_ _
  go_wp2
  go_ret
  exact ⟨rfl, HB0.out.chain Q8.out⟩
theorem append_nothingT (w : World) (ty : TypeId) (A : Option Addr) (n m : Nat) (h : n ≤ m) (B : Option Addr) (c : Nat) :
    (Builtin.append_ #[22, 22] ty #[.slice A n m, .slice B 0 c]).run Tryd.prog w = .ok (.slice A n m) w := by
  obtain ⟨i0, hi, hz0, hz1, hz2⟩ := info_parts Tryd.infoStrK
  have ht : Tryd.prog.underlying 22 = _ := Tryd.underlying22
  have hl : ∀ b : Addr, (loadCells b 0).run Tryd.prog w = .ok #[] w := fun b => run_loadCells_list w b [] (fun j v h => by simp at h)
  cases A <;> cases B <;> simp [Builtin.append_, run_underlying ht, sizeOf, typeInfo, hi, Builtin.lenOf, Builtin.firstCells, h, storeCells, hl]
theorem own_lit {W : World} {B R : Nat} {C : Array Value} {e : TypeId} (h : W.heap[R]? = some (.cells C e)) (hB : B ≤ R) (n : Nat) (hn : C.size = n) (hm : n ≤ 1000) : W.ownsRow B e 1 (.slice (some ⟨R, 0, none⟩) n n) n C.toList :=
  ⟨by simp [hn], .inr ⟨R, n, C, rfl, hB, h, Nat.le_refl _, by unfold maxLen; omega, by simp [hn], by subst hn; simp [List.take_of_length_le]⟩⟩
set_option maxRecDepth 100000 in
theorem refFlag13_any (b : Bool) (w : World) : Calls Tryd.prog 36 #[.bool b] w fun e w' => e = .returned (tv (if b = true then [49] else [48])) ∧ Below w.heap.size w w' := by
  cases b with
  | true =>
    go_enter Tryd.func36, Tryd.ntmps36
    go_wp2
    go_ret
    exact ⟨rfl, Below.refl _ _⟩
  | false =>
    go_enter Tryd.func36, Tryd.ntmps36
    go_wp2
    go_ret
    exact ⟨rfl, Below.refl _ _⟩
set_option maxRecDepth 100000 in
set_option maxHeartbeats 4000000 in
theorem refFamily13_any (x : Fam) (ov : Value) (hl : (textsL x.texts).length ≤ 1000000000) (w : World) (ho : RdT w ov x.fOld) :
    Calls Tryd.prog 25 #[x.val ov] w fun e w' => e = .returned (tv (textsL x.texts)) ∧ Below w.heap.size w w' := by
  obtain ⟨i0, hi, hz0, hz1, hz2⟩ := info_parts Tryd.infoStrK
  have htx := fun (W : World) (v : Value) (h : RdT W v x.texts) => (by obtain ⟨A, c, rfl⟩ := rdt_form h; exact refTexts13_any A c x.texts hl W h : Calls Tryd.prog 14 #[v] W fun e w' => e = .returned (tv (textsL x.texts)) ∧ Below W.heap.size W w')
  have hfl := fun W => refFlag13_any x.fRevoked W
  obtain ⟨FL, hFL⟩ : ∃ B : ByteArray, B = ⟨(if x.fRevoked = true then ([49] : List UInt8) else [48]).toArray⟩ := ⟨_, rfl⟩
  unfold tv at hfl
  rw [← hFL] at hfl
  obtain ⟨OA, OC, rfl⟩ := rdt_form ho
  obtain ⟨B0, hB0⟩ : ∃ B : ByteArray, B = ⟨x.fID.toArray⟩ := ⟨_, rfl⟩
  obtain ⟨B1, hB1⟩ : ∃ B : ByteArray, B = ⟨x.fClient.toArray⟩ := ⟨_, rfl⟩
  obtain ⟨B2, hB2⟩ : ∃ B : ByteArray, B = ⟨x.fUser.toArray⟩ := ⟨_, rfl⟩
  obtain ⟨B3, hB3⟩ : ∃ B : ByteArray, B = ⟨x.fConn.toArray⟩ := ⟨_, rfl⟩
  obtain ⟨B4, hB4⟩ : ∃ B : ByteArray, B = ⟨x.fSub.toArray⟩ := ⟨_, rfl⟩
  obtain ⟨B5, hB5⟩ : ∃ B : ByteArray, B = ⟨x.fNonce.toArray⟩ := ⟨_, rfl⟩
  obtain ⟨B6, hB6⟩ : ∃ B : ByteArray, B = ⟨x.fScope.toArray⟩ := ⟨_, rfl⟩
  obtain ⟨B7, hB7⟩ : ∃ B : ByteArray, B = ⟨x.fClaims.toArray⟩ := ⟨_, rfl⟩
  obtain ⟨B8, hB8⟩ : ∃ B : ByteArray, B = ⟨x.fRefresh.toArray⟩ := ⟨_, rfl⟩
  obtain ⟨B9, hB9⟩ : ∃ B : ByteArray, B = ⟨x.fUp.toArray⟩ := ⟨_, rfl⟩
  have hlx := textsL_len x.texts
  have hlt : x.texts.length = 11 + x.fOld.length := by unfold Fam.texts; rw [List.length_append]; rfl
  have hC : tcells x.texts = [.string B0, .string B1, .string B2, .string B3, .string B4, .string B5, .string B6, .string B7, .string B8, .string B9, .string FL] ++ tcells x.fOld := by
    unfold Fam.texts
    rw [tcells_app, hB0, hB1, hB2, hB3, hB4, hB5, hB6, hB7, hB8, hB9, hFL]; rfl
  obtain ⟨ON, hON⟩ : ∃ n, x.fOld.length = n := ⟨_, rfl⟩
  rw [hON] at ho hlt ⊢
  have hval : x.val (.slice OA ON OC) = .agg #[.string B0, .string B1, .string B2, .string B3, .string B4, .string B5, .string B6, .string B7, .string B8, .string B9, .slice OA ON OC, .bool x.fRevoked] := by
    rw [hB0, hB1, hB2, hB3, hB4, hB5, hB6, hB7, hB8, hB9]; rfl
  rw [hval]
  obtain ⟨b, hb⟩ : ∃ b, w.heap.size = b := ⟨_, rfl⟩
  obtain ⟨W0, hW0⟩ : ∃ W, w.alloc (.cells #[.string B0, .string B1, .string B2, .string B3, .string B4, .string B5, .string B6, .string B7, .string B8, .string B9, .slice OA ON OC, .bool x.fRevoked] 47) = W := ⟨_, rfl⟩
  have hb0 : Below w.heap.size w W0 := by rw [← hW0]; exact (Below.refl _ _).alloc (Nat.le_refl _) _
  have k0 : W0.heap[b]? = some (.cells #[.string B0, .string B1, .string B2, .string B3, .string B4, .string B5, .string B6, .string B7, .string B8, .string B9, .slice OA ON OC, .bool x.fRevoked] 47) := by rw [← hW0, ← hb]; exact heap_alloc_last w _
  have hcb : ∀ W, Below W0.heap.size W0 W → W.cell? ⟨b, 0, none⟩ = some (.string B0) ∧ W.cell? ⟨b, 1, none⟩ = some (.string B1) ∧ W.cell? ⟨b, 2, none⟩ = some (.string B2) ∧ W.cell? ⟨b, 3, none⟩ = some (.string B3) ∧ W.cell? ⟨b, 4, none⟩ = some (.string B4) ∧ W.cell? ⟨b, 5, none⟩ = some (.string B5) ∧ W.cell? ⟨b, 6, none⟩ = some (.string B6) ∧ W.cell? ⟨b, 7, none⟩ = some (.string B7) ∧ W.cell? ⟨b, 8, none⟩ = some (.string B8) ∧ W.cell? ⟨b, 9, none⟩ = some (.string B9) ∧ W.cell? ⟨b, 10, none⟩ = some (.slice OA ON OC) ∧ W.cell? ⟨b, 11, none⟩ = some (.bool x.fRevoked) := fun W hb => by
    have k := blk_below k0 hb
    exact ⟨cell_here k, cell_here k, cell_here k, cell_here k, cell_here k, cell_here k, cell_here k, cell_here k, cell_here k, cell_here k, cell_here k, cell_here k⟩
  have HTX := Lib.hid htx; have HC := Lib.hid hC; have HB0 := Lib.hid hb0; have HCB := Lib.hid hcb; have HW0 := Lib.hid hW0; have HB := Lib.hid hb; have HFL := Lib.hid hfl; have HO := Lib.hid ho; have HON := Lib.hid hON; have HLT := Lib.hid hlt; have HLX := Lib.hid hlx; have HL := Lib.hid hl
  clear htx hC hb0 hcb hW0 hb k0 hval hfl hFL ho hON hlt hlx hl hB0 hB1 hB2 hB3 hB4 hB5 hB6 hB7 hB8 hB9
  go_enter Tryd.func25, Tryd.ntmps25
  go_upto_region 1 with fail
  rw [HW0.out, HB.out]
  refine wp_region_held_drew (S := (fun W => W.cell? ⟨b, 0, none⟩ = some (.string B0) ∧ W.cell? ⟨b, 1, none⟩ = some (.string B1) ∧ W.cell? ⟨b, 2, none⟩ = some (.string B2) ∧ W.cell? ⟨b, 3, none⟩ = some (.string B3) ∧ W.cell? ⟨b, 4, none⟩ = some (.string B4) ∧ W.cell? ⟨b, 5, none⟩ = some (.string B5) ∧ W.cell? ⟨b, 6, none⟩ = some (.string B6) ∧ W.cell? ⟨b, 7, none⟩ = some (.string B7) ∧ W.cell? ⟨b, 8, none⟩ = some (.string B8) ∧ W.cell? ⟨b, 9, none⟩ = some (.string B9) ∧ W.cell? ⟨b, 10, none⟩ = some (.slice OA ON OC) ∧ W.cell? ⟨b, 11, none⟩ = some (.bool x.fRevoked))) (by kernel_rfl) (HCB.out _ (Below.refl _ _).drew) (fun hHeld => ?_)
  refine wpAnyH_take (i := 0) (oi := _) (v := ?v1) (by simp only [List.getElem?_toArray, List.getElem?_cons_succ, List.getElem?_cons_zero]; rfl) (by kernel_rfl) (by kernel_rfl) (by kernel_rfl) (by exact fun _ _ _ h => h) (Or.inl ⟨by rfl, ?hy1⟩) (by assumption) ?rest1
  case hy1 => (intro w hSw; (try dsimp only at hSw); go_simp; try with_reducible rfl)
  try simp only [Act.put, List.setIfInBounds_toArray, List.set_cons_zero, List.set_cons_succ]
  refine wpAnyH_take (i := 1) (oi := _) (v := ?v2) (by simp only [List.getElem?_toArray, List.getElem?_cons_succ, List.getElem?_cons_zero]; rfl) (by kernel_rfl) (by kernel_rfl) (by kernel_rfl) (by exact fun _ _ _ h => h) (Or.inl ⟨by rfl, ?hy2⟩) (by assumption) ?rest2
  case hy2 => (intro w hSw; (try dsimp only at hSw); go_simp; try with_reducible rfl)
  try simp only [Act.put, List.setIfInBounds_toArray, List.set_cons_zero, List.set_cons_succ]
  refine wpAnyH_take (i := 2) (oi := _) (v := ?v3) (by simp only [List.getElem?_toArray, List.getElem?_cons_succ, List.getElem?_cons_zero]; rfl) (by kernel_rfl) (by kernel_rfl) (by kernel_rfl) (by exact fun _ _ _ h => h) (Or.inl ⟨by rfl, ?hy3⟩) (by assumption) ?rest3
  case hy3 => (intro w hSw; (try dsimp only at hSw); go_simp; try with_reducible rfl)
  try simp only [Act.put, List.setIfInBounds_toArray, List.set_cons_zero, List.set_cons_succ]
  refine wpAnyH_take (i := 3) (oi := _) (v := ?v4) (by simp only [List.getElem?_toArray, List.getElem?_cons_succ, List.getElem?_cons_zero]; rfl) (by kernel_rfl) (by kernel_rfl) (by kernel_rfl) (by exact fun _ _ _ h => h) (Or.inl ⟨by rfl, ?hy4⟩) (by assumption) ?rest4
  case hy4 => (intro w hSw; (try dsimp only at hSw); go_simp; try with_reducible rfl)
  try simp only [Act.put, List.setIfInBounds_toArray, List.set_cons_zero, List.set_cons_succ]
  refine wpAnyH_take (i := 4) (oi := _) (v := ?v5) (by simp only [List.getElem?_toArray, List.getElem?_cons_succ, List.getElem?_cons_zero]; rfl) (by kernel_rfl) (by kernel_rfl) (by kernel_rfl) (by exact fun _ _ _ h => h) (Or.inl ⟨by rfl, ?hy5⟩) (by assumption) ?rest5
  case hy5 => (intro w hSw; (try dsimp only at hSw); go_simp; try with_reducible rfl)
  try simp only [Act.put, List.setIfInBounds_toArray, List.set_cons_zero, List.set_cons_succ]
  refine wpAnyH_take (i := 5) (oi := _) (v := ?v6) (by simp only [List.getElem?_toArray, List.getElem?_cons_succ, List.getElem?_cons_zero]; rfl) (by kernel_rfl) (by kernel_rfl) (by kernel_rfl) (by exact fun _ _ _ h => h) (Or.inl ⟨by rfl, ?hy6⟩) (by assumption) ?rest6
  case hy6 => (intro w hSw; (try dsimp only at hSw); go_simp; try with_reducible rfl)
  try simp only [Act.put, List.setIfInBounds_toArray, List.set_cons_zero, List.set_cons_succ]
  refine wpAnyH_take (i := 6) (oi := _) (v := ?v7) (by simp only [List.getElem?_toArray, List.getElem?_cons_succ, List.getElem?_cons_zero]; rfl) (by kernel_rfl) (by kernel_rfl) (by kernel_rfl) (by exact fun _ _ _ h => h) (Or.inl ⟨by rfl, ?hy7⟩) (by assumption) ?rest7
  case hy7 => (intro w hSw; (try dsimp only at hSw); go_simp; try with_reducible rfl)
  try simp only [Act.put, List.setIfInBounds_toArray, List.set_cons_zero, List.set_cons_succ]
  refine wpAnyH_take (i := 7) (oi := _) (v := ?v8) (by simp only [List.getElem?_toArray, List.getElem?_cons_succ, List.getElem?_cons_zero]; rfl) (by kernel_rfl) (by kernel_rfl) (by kernel_rfl) (by exact fun _ _ _ h => h) (Or.inl ⟨by rfl, ?hy8⟩) (by assumption) ?rest8
  case hy8 => (intro w hSw; (try dsimp only at hSw); go_simp; try with_reducible rfl)
  try simp only [Act.put, List.setIfInBounds_toArray, List.set_cons_zero, List.set_cons_succ]
  refine wpAnyH_take (i := 8) (oi := _) (v := ?v9) (by simp only [List.getElem?_toArray, List.getElem?_cons_succ, List.getElem?_cons_zero]; rfl) (by kernel_rfl) (by kernel_rfl) (by kernel_rfl) (by exact fun _ _ _ h => h) (Or.inl ⟨by rfl, ?hy9⟩) (by assumption) ?rest9
  case hy9 => (intro w hSw; (try dsimp only at hSw); go_simp; try with_reducible rfl)
  try simp only [Act.put, List.setIfInBounds_toArray, List.set_cons_zero, List.set_cons_succ]
  refine wpAnyH_take (i := 9) (oi := _) (v := ?v10) (by simp only [List.getElem?_toArray, List.getElem?_cons_succ, List.getElem?_cons_zero]; rfl) (by kernel_rfl) (by kernel_rfl) (by kernel_rfl) (by exact fun _ _ _ h => h) (Or.inl ⟨by rfl, ?hy10⟩) (by assumption) ?rest10
  case hy10 => (intro w hSw; (try dsimp only at hSw); go_simp; try with_reducible rfl)
  try simp only [Act.put, List.setIfInBounds_toArray, List.set_cons_zero, List.set_cons_succ]
  refine wpAnyH_take (i := 10) (oi := _) (v := ?v11) (by simp only [List.getElem?_toArray, List.getElem?_cons_succ, List.getElem?_cons_zero]; rfl) (by kernel_rfl) (by kernel_rfl) (by kernel_rfl) (by exact fun _ _ _ h => h) (Or.inl ⟨by rfl, ?hy11⟩) (by assumption) ?rest11
  case hy11 => (intro w hSw; (try dsimp only at hSw); go_simp; try with_reducible rfl)
  try simp only [Act.put, List.setIfInBounds_toArray, List.set_cons_zero, List.set_cons_succ]
  refine wpAnyH_take (i := 11) (oi := _) (v := ?v12) (by simp only [List.getElem?_toArray, List.getElem?_cons_succ, List.getElem?_cons_zero]; rfl) (by kernel_rfl) (by kernel_rfl) (by kernel_rfl) (by exact fun _ _ _ h => h) (Or.inl ⟨by rfl, ?hy12⟩) (by assumption) ?rest12
  case hy12 => (intro w hSw; (try dsimp only at hSw); go_simp; try with_reducible rfl)
  try simp only [Act.put, List.setIfInBounds_toArray, List.set_cons_zero, List.set_cons_succ]
  refine wpAnyH_take (i := 12) (oi := _) (v := ?v13) (by simp only [List.getElem?_toArray, List.getElem?_cons_succ, List.getElem?_cons_zero]; rfl) (by kernel_rfl) (by kernel_rfl) (by kernel_rfl) (by exact fun _ _ _ h => h) (Or.inl ⟨by rfl, ?hy13⟩) (by assumption) ?rest13
  case hy13 => (intro w hSw; (try dsimp only at hSw); go_simp; try with_reducible rfl)
  try simp only [Act.put, List.setIfInBounds_toArray, List.set_cons_zero, List.set_cons_succ]
  refine wpAnyH_take (i := 13) (oi := _) (v := ?v14) (by simp only [List.getElem?_toArray, List.getElem?_cons_succ, List.getElem?_cons_zero]; rfl) (by kernel_rfl) (by kernel_rfl) (by kernel_rfl) (by exact fun _ _ _ h => h) (Or.inl ⟨by rfl, ?hy14⟩) (by assumption) ?rest14
  case hy14 => (intro w hSw; (try dsimp only at hSw); go_simp; try with_reducible rfl)
  try simp only [Act.put, List.setIfInBounds_toArray, List.set_cons_zero, List.set_cons_succ]
  refine wpAnyH_take (i := 14) (oi := _) (v := ?v15) (by simp only [List.getElem?_toArray, List.getElem?_cons_succ, List.getElem?_cons_zero]; rfl) (by kernel_rfl) (by kernel_rfl) (by kernel_rfl) (by exact fun _ _ _ h => h) (Or.inl ⟨by rfl, ?hy15⟩) (by assumption) ?rest15
  case hy15 => (intro w hSw; (try dsimp only at hSw); go_simp; try with_reducible rfl)
  try simp only [Act.put, List.setIfInBounds_toArray, List.set_cons_zero, List.set_cons_succ]
  refine wpAnyH_take (i := 15) (oi := _) (v := ?v16) (by simp only [List.getElem?_toArray, List.getElem?_cons_succ, List.getElem?_cons_zero]; rfl) (by kernel_rfl) (by kernel_rfl) (by kernel_rfl) (by exact fun _ _ _ h => h) (Or.inl ⟨by rfl, ?hy16⟩) (by assumption) ?rest16
  case hy16 => (intro w hSw; (try dsimp only at hSw); go_simp; try with_reducible rfl)
  try simp only [Act.put, List.setIfInBounds_toArray, List.set_cons_zero, List.set_cons_succ]
  refine wpAnyH_take (i := 16) (oi := _) (v := ?v17) (by simp only [List.getElem?_toArray, List.getElem?_cons_succ, List.getElem?_cons_zero]; rfl) (by kernel_rfl) (by kernel_rfl) (by kernel_rfl) (by exact fun _ _ _ h => h) (Or.inl ⟨by rfl, ?hy17⟩) (by assumption) ?rest17
  case hy17 => (intro w hSw; (try dsimp only at hSw); go_simp; try with_reducible rfl)
  try simp only [Act.put, List.setIfInBounds_toArray, List.set_cons_zero, List.set_cons_succ]
  refine wpAnyH_take (i := 17) (oi := _) (v := ?v18) (by simp only [List.getElem?_toArray, List.getElem?_cons_succ, List.getElem?_cons_zero]; rfl) (by kernel_rfl) (by kernel_rfl) (by kernel_rfl) (by exact fun _ _ _ h => h) (Or.inl ⟨by rfl, ?hy18⟩) (by assumption) ?rest18
  case hy18 => (intro w hSw; (try dsimp only at hSw); go_simp; try with_reducible rfl)
  try simp only [Act.put, List.setIfInBounds_toArray, List.set_cons_zero, List.set_cons_succ]
  refine wpAnyH_take (i := 18) (oi := _) (v := ?v19) (by simp only [List.getElem?_toArray, List.getElem?_cons_succ, List.getElem?_cons_zero]; rfl) (by kernel_rfl) (by kernel_rfl) (by kernel_rfl) (by exact fun _ _ _ h => h) (Or.inl ⟨by rfl, ?hy19⟩) (by assumption) ?rest19
  case hy19 => (intro w hSw; (try dsimp only at hSw); go_simp; try with_reducible rfl)
  try simp only [Act.put, List.setIfInBounds_toArray, List.set_cons_zero, List.set_cons_succ]
  refine wpAnyH_take (i := 19) (oi := _) (v := ?v20) (by simp only [List.getElem?_toArray, List.getElem?_cons_succ, List.getElem?_cons_zero]; rfl) (by kernel_rfl) (by kernel_rfl) (by kernel_rfl) (by exact fun _ _ _ h => h) (Or.inl ⟨by rfl, ?hy20⟩) (by assumption) ?rest20
  case hy20 => (intro w hSw; (try dsimp only at hSw); go_simp; try with_reducible rfl)
  try simp only [Act.put, List.setIfInBounds_toArray, List.set_cons_zero, List.set_cons_succ]
  refine wpAnyH_take (i := 20) (oi := _) (v := ?v21) (by simp only [List.getElem?_toArray, List.getElem?_cons_succ, List.getElem?_cons_zero]; rfl) (by kernel_rfl) (by kernel_rfl) (by kernel_rfl) (by exact fun _ _ _ h => h) (Or.inl ⟨by rfl, ?hy21⟩) (by assumption) ?rest21
  case hy21 => (intro w hSw; (try dsimp only at hSw); go_simp; try with_reducible rfl)
  try simp only [Act.put, List.setIfInBounds_toArray, List.set_cons_zero, List.set_cons_succ]
  refine wpAnyH_take (i := 21) (oi := _) (v := ?v22) (by simp only [List.getElem?_toArray, List.getElem?_cons_succ, List.getElem?_cons_zero]; rfl) (by kernel_rfl) (by kernel_rfl) (by kernel_rfl) (by exact fun _ _ _ h => h) (Or.inl ⟨by rfl, ?hy22⟩) (by assumption) ?rest22
  case hy22 => (intro w hSw; (try dsimp only at hSw); go_simp; try with_reducible rfl)
  try simp only [Act.put, List.setIfInBounds_toArray, List.set_cons_zero, List.set_cons_succ]
  refine wpAnyH_ready (rs := [22]) (by kernel_rfl) (by simp) ?_
  refine AllReadyH.cons (o := _) (by simp only [List.getElem?_toArray, List.getElem?_cons_succ, List.getElem?_cons_zero]; rfl) (fun K hK => ?_) AllReadyH.nil
  go_simp
  go_at_call 36
  (with_reducible refine (HFL.out _).mono ?_)
  rintro e w1 ⟨rfl, hb1⟩
  have Q1 := Lib.hid ((Below.refl W0.heap.size W0).drew.chain hb1); clear hb1
  dsimp only
  refine hK.out _ _ (HCB.out _ Q1.out) (fun hHeld => ?_)
  clear hK K
  try simp only [Act.put, List.setIfInBounds_toArray, List.set_cons_zero, List.set_cons_succ]
  refine wpAnyH_ready (rs := [23]) (by kernel_rfl) (by simp) ?_
  refine AllReadyH.cons (o := _) (by simp only [List.getElem?_toArray, List.getElem?_cons_succ, List.getElem?_cons_zero]; rfl) (fun K hK => ?_) AllReadyH.nil
  go_simp
  have Q9 := Lib.hid (Q1.out.alloc Q1.out.size (.cells #[.string B0, .string B1, .string B2, .string B3, .string B4, .string B5, .string B6, .string B7, .string B8, .string B9, .string FL] 9))
  have K9 := Lib.hid (heap_alloc_last w1 (.cells #[.string B0, .string B1, .string B2, .string B3, .string B4, .string B5, .string B6, .string B7, .string B8, .string B9, .string FL] 9))
  refine hK.out _ _ (HCB.out _ Q9.out) (fun hHeld => ?_)
  clear hK K
  try simp only [Act.put, List.setIfInBounds_toArray, List.set_cons_zero, List.set_cons_succ]
  refine wpAnyH_take (i := 24) (oi := _) (v := ?v25) (by simp only [List.getElem?_toArray, List.getElem?_cons_succ, List.getElem?_cons_zero]; rfl) (by kernel_rfl) (by kernel_rfl) (by kernel_rfl) (by exact fun _ _ _ h => h) (Or.inl ⟨by rfl, ?hy25⟩) (by assumption) ?rest25
  case hy25 => (intro w hSw; (try dsimp only at hSw); go_simp; try with_reducible rfl)
  try simp only [Act.put, List.setIfInBounds_toArray, List.set_cons_zero, List.set_cons_succ]
  refine wpAnyH_done (by kernel_rfl) ?_ _
  clear hHeld
  obtain ⟨R, hR⟩ : ∃ R, w1.heap.size = R := ⟨_, rfl⟩
  obtain ⟨W9, hW9⟩ : ∃ W, w1.alloc (.cells #[.string B0, .string B1, .string B2, .string B3, .string B4, .string B5, .string B6, .string B7, .string B8, .string B9, .string FL] 9) = W := ⟨_, rfl⟩
  have q9 := Q9.out
  have k9 := K9.out
  have hRb : w.heap.size ≤ R := by have h1 := HB0.out.size; have h2 := Q1.out.size; omega
  rw [hW9] at q9 k9 ⊢
  rw [hR] at k9 ⊢
  have hown := own_lit k9 hRb 11 rfl (by decide)
  have h10 := (HCB.out _ q9).2.2.2.2.2.2.2.2.2.2.1
  have Q10 := Lib.hid q9; have OWN := Lib.hid hown
  have HRD9 := HO.out.below (HB0.out.chain q9)
  have hsz9 := (HB0.out.chain q9).size
  have D9 := Lib.hid HRD9
  clear q9 k9 hown hR hW9 K9 Q9 HRD9
  by_cases hz : ON = 0
  · have hcs := HC.out
    have hO0 := HON.out
    rw [List.eq_nil_of_length_eq_zero (hO0.trans hz), show tcells [] = [] from rfl, List.append_nil] at hcs
    subst hz
    have hrt : RdT W9 (.slice (some ⟨R, 0, none⟩) 11 11) x.texts := TRow.rd (TRow.cut OWN.out (by have := HLT.out; omega) (by rw [hcs]))
    have hct := HTX.out W9 _ hrt
    have HCT := Lib.hid hct
    have hap := fun ty => append_nothingT W9 ty (some ⟨R, 0, none⟩) 11 11 (Nat.le_refl _) OA OC
    have HAP := Lib.hid hap
    clear hcs hrt hct hap hO0
    go_wp2_with (at_builtin; refine Lib.wpList_append_run _ rfl _ _ _ _ rfl _ _ rfl rfl _ _ (HAP.out 22) ?_)
    refine HCT.out.mono ?_
    rintro e w8 ⟨rfl, hb8⟩
    have Q8 := Lib.hid (Q10.out.chain hb8); clear hb8
    dsimp only
    go_wp2
    go_ret
    exact ⟨rfl, HB0.out.chain Q8.out⟩
  · have hnw : ∃ ad, OA = some ad ∧ ∀ j u, (tcells x.fOld)[j]? = some u → W9.cell? (ad.add j) = some u := by
      obtain ⟨A1, c1, e1, hc1, ha1⟩ := D9.out
      have e2 : OA = A1 := by injection e1
      obtain ⟨g, o, hA, hg, _⟩ := ha1 0 _ (List.getElem?_eq_getElem (by have := HON.out; omega))
      refine ⟨⟨g, o, none⟩, e2.trans hA, fun j u hu => ?_⟩
      unfold tcells at hu
      rw [List.getElem?_map] at hu
      obtain ⟨y, hy, rfl⟩ := Option.map_eq_some_iff.1 hu
      obtain ⟨g', o', hA', _, hu'⟩ := ha1 j y hy
      rw [hA] at hA'
      injection hA' with hA'
      injection hA' with e3 e4
      rw [Addr.add_lit, e3, e4]; exact hu'
    have hll : (tcells x.fOld).length = ON * 1 := by unfold tcells; rw [List.length_map, HON.out, Nat.mul_one]
    have hone : ∀ u ∈ tcells x.fOld, u.oneCell' = true := fun u hu => by
      obtain ⟨y, _, rfl⟩ := List.mem_map.1 hu; rfl
    have hbd : 11 + ON ≤ 1000000000 := by have h1 := HLX.out; have h2 := HLT.out; have h3 := HL.out; omega
    have HNW := Lib.hid hnw; have HLL := Lib.hid hll; have HONE := Lib.hid hone
    clear hnw hll hone
    go_wp2_with (at_builtin; refine wpList_append_opt rfl _ _ 22 rfl w.heap.size 9 i0 _ 1 16 Tryd.underlying22 hi hz0 hz1 hz2 rfl (by decide) _ _ _ rfl OWN.out OA ON OC (tcells x.fOld) rfl HLL.out (.inr HNW.out) HONE.out (by unfold maxLen; omega) (by omega) hsz9 ?_)
    intro v6 w6 own6 g6 _
    have hb6 := (HB0.out.chain Q10.out).grown g6 hsz9 (fun j hj => (OWN.out.lt j hj).1)
    have hrt : RdT w6 v6 x.texts := TRow.rd (TRow.cut own6 HLT.out.symm (by rw [HC.out]; rfl))
    have HCT := Lib.hid (HTX.out w6 v6 hrt); have Q6 := Lib.hid hb6
    clear hrt hb6 own6 g6
    go_wp2_with fail
    refine HCT.out.mono ?_
    rintro e w8 ⟨rfl, hb8⟩
    have Q8 := Lib.hid (Q6.out.chain hb8); clear hb8
    dsimp only
    go_wp2
    go_ret
    exact ⟨rfl, Q8.out⟩
end Go.Proofs.YtefnkkjmcfpiaaaDoor
