/- The reference's Families (layer 13). Written by wip/gen/gref13.py. -/
import Derived.Test.YtefnkkjmcfpiaaaDoorRowRefS
namespace Go.Proofs.YtefnkkjmcfpiaaaDoor
open Go.RowKit
set_option linter.unusedVariables false
set_option linter.unusedSimpArgs false

theorem str_is (x y : ByteArray) (a b : List UInt8) (hx : x = ⟨a.toArray⟩) (hy : y = ⟨b.toArray⟩) : (x.toList == y.toList) = decide (a = b) := by
  have h := str_neq x y a b hx hy
  cases h1 : x.toList == y.toList <;> cases h2 : decide (a = b) <;> simp [h1, h2] at h ⊢
set_option maxRecDepth 100000 in
set_option maxHeartbeats 4000000 in
theorem refFamilies13_any (x y : Fam) (ov ov' : Value) (hl : (textsL x.texts).length ≤ 1000000000) (hl' : (textsL y.texts).length ≤ 1000000000) (w : World) (ho : RdT w ov x.fOld) (ho' : RdT w ov' y.fOld) :
    Calls Tryd.prog 26 #[x.val ov, y.val ov'] w fun e w' => e = .returned (.bool (decide (textsL x.texts = textsL y.texts))) ∧ Below w.heap.size w w' := by
  have hf1 := fun W (hb : Below w.heap.size w W) => refFamily13_any x ov hl W (ho.below hb)
  have hf2 := fun W (hb : Below w.heap.size w W) => refFamily13_any y ov' hl' W (ho'.below hb)
  obtain ⟨BA, BC, rfl⟩ := rdt_form ho
  obtain ⟨CA, CC, rfl⟩ := rdt_form ho'
  obtain ⟨B0, hB0⟩ : ∃ B : ByteArray, B = ⟨x.fID.toArray⟩ := ⟨_, rfl⟩
  obtain ⟨B1, hB1⟩ : ∃ B : ByteArray, B = ⟨x.fClient.toArray⟩ := ⟨_, rfl⟩
  obtain ⟨B2, hB2⟩ : ∃ B : ByteArray, B = ⟨x.fUser.toArray⟩ := ⟨_, rfl⟩
  obtain ⟨B3, hB3⟩ : ∃ B : ByteArray, B = ⟨x.fConn.toArray⟩ := ⟨_, rfl⟩
  obtain ⟨B4, hB4⟩ : ∃ B : ByteArray, B = ⟨x.fSub.toArray⟩ := ⟨_, rfl⟩
  obtain ⟨B5, hB5⟩ : ∃ B : ByteArray, B = ⟨x.fNonce.toArray⟩ := ⟨_, rfl⟩
  obtain ⟨B6, hB6⟩ : ∃ B : ByteArray, B = ⟨x.fScope.toArray⟩ := ⟨_, rfl⟩
  obtain ⟨B7, hB7⟩ : ∃ B : ByteArray, B = ⟨x.fClaims.toArray⟩ := ⟨_, rfl⟩
  obtain ⟨B8, hB8⟩ : ∃ B : ByteArray, B = ⟨x.fRefresh.toArray⟩ := ⟨_, rfl⟩
  obtain ⟨B9, hB9⟩ : ∃ B : ByteArray, B = ⟨x.fUp.toArray⟩ := ⟨_, rfl⟩
  obtain ⟨C0, hC0⟩ : ∃ B : ByteArray, B = ⟨y.fID.toArray⟩ := ⟨_, rfl⟩
  obtain ⟨C1, hC1⟩ : ∃ B : ByteArray, B = ⟨y.fClient.toArray⟩ := ⟨_, rfl⟩
  obtain ⟨C2, hC2⟩ : ∃ B : ByteArray, B = ⟨y.fUser.toArray⟩ := ⟨_, rfl⟩
  obtain ⟨C3, hC3⟩ : ∃ B : ByteArray, B = ⟨y.fConn.toArray⟩ := ⟨_, rfl⟩
  obtain ⟨C4, hC4⟩ : ∃ B : ByteArray, B = ⟨y.fSub.toArray⟩ := ⟨_, rfl⟩
  obtain ⟨C5, hC5⟩ : ∃ B : ByteArray, B = ⟨y.fNonce.toArray⟩ := ⟨_, rfl⟩
  obtain ⟨C6, hC6⟩ : ∃ B : ByteArray, B = ⟨y.fScope.toArray⟩ := ⟨_, rfl⟩
  obtain ⟨C7, hC7⟩ : ∃ B : ByteArray, B = ⟨y.fClaims.toArray⟩ := ⟨_, rfl⟩
  obtain ⟨C8, hC8⟩ : ∃ B : ByteArray, B = ⟨y.fRefresh.toArray⟩ := ⟨_, rfl⟩
  obtain ⟨C9, hC9⟩ : ∃ B : ByteArray, B = ⟨y.fUp.toArray⟩ := ⟨_, rfl⟩
  obtain ⟨BN, hBN⟩ : ∃ n, x.fOld.length = n := ⟨_, rfl⟩
  obtain ⟨CN, hCN⟩ : ∃ n, y.fOld.length = n := ⟨_, rfl⟩
  rw [hBN] at hf1 ⊢
  rw [hCN] at hf2 ⊢
  have hvB : x.val (.slice BA BN BC) = .agg #[.string B0, .string B1, .string B2, .string B3, .string B4, .string B5, .string B6, .string B7, .string B8, .string B9, .slice BA BN BC, .bool x.fRevoked] := by
    rw [hB0, hB1, hB2, hB3, hB4, hB5, hB6, hB7, hB8, hB9]; rfl
  have hvC : y.val (.slice CA CN CC) = .agg #[.string C0, .string C1, .string C2, .string C3, .string C4, .string C5, .string C6, .string C7, .string C8, .string C9, .slice CA CN CC, .bool y.fRevoked] := by
    rw [hC0, hC1, hC2, hC3, hC4, hC5, hC6, hC7, hC8, hC9]; rfl
  rw [hvB] at hf1 ⊢
  rw [hvC] at hf2 ⊢
  obtain ⟨T1, hT1⟩ : ∃ B : ByteArray, B = ⟨(textsL x.texts).toArray⟩ := ⟨_, rfl⟩
  obtain ⟨T2, hT2⟩ : ∃ B : ByteArray, B = ⟨(textsL y.texts).toArray⟩ := ⟨_, rfl⟩
  have heq := str_is T1 T2 _ _ hT1 hT2
  unfold tv at hf1 hf2
  simp only [← hT1] at hf1
  simp only [← hT2] at hf2
  rw [← heq]
  obtain ⟨b, hb⟩ : ∃ b, w.heap.size = b := ⟨_, rfl⟩
  obtain ⟨W0, hW0⟩ : ∃ W, (w.alloc (.cells #[.string B0, .string B1, .string B2, .string B3, .string B4, .string B5, .string B6, .string B7, .string B8, .string B9, .slice BA BN BC, .bool x.fRevoked] 47)).alloc (.cells #[.string C0, .string C1, .string C2, .string C3, .string C4, .string C5, .string C6, .string C7, .string C8, .string C9, .slice CA CN CC, .bool y.fRevoked] 47) = W := ⟨_, rfl⟩
  have hb0 : Below w.heap.size w W0 := by rw [← hW0]; exact ((Below.refl _ _).alloc (Nat.le_refl _) _).alloc (by simp) _
  have k0 : W0.heap[b]? = some (.cells #[.string B0, .string B1, .string B2, .string B3, .string B4, .string B5, .string B6, .string B7, .string B8, .string B9, .slice BA BN BC, .bool x.fRevoked] 47) := by rw [← hW0, ← hb]; exact alloc_block (heap_alloc_last w _)
  have k1 : W0.heap[b + 1]? = some (.cells #[.string C0, .string C1, .string C2, .string C3, .string C4, .string C5, .string C6, .string C7, .string C8, .string C9, .slice CA CN CC, .bool y.fRevoked] 47) := by rw [← hW0, ← hb]; exact fresh_at _ (by simp)
  have hcb : ∀ W, Below W0.heap.size W0 W → (W.cell? ⟨b, 0, none⟩ = some (.string B0) ∧ W.cell? ⟨b, 1, none⟩ = some (.string B1) ∧ W.cell? ⟨b, 2, none⟩ = some (.string B2) ∧ W.cell? ⟨b, 3, none⟩ = some (.string B3) ∧ W.cell? ⟨b, 4, none⟩ = some (.string B4) ∧ W.cell? ⟨b, 5, none⟩ = some (.string B5) ∧ W.cell? ⟨b, 6, none⟩ = some (.string B6) ∧ W.cell? ⟨b, 7, none⟩ = some (.string B7) ∧ W.cell? ⟨b, 8, none⟩ = some (.string B8) ∧ W.cell? ⟨b, 9, none⟩ = some (.string B9) ∧ W.cell? ⟨b, 10, none⟩ = some (.slice BA BN BC) ∧ W.cell? ⟨b, 11, none⟩ = some (.bool x.fRevoked)) ∧ (W.cell? ⟨b + 1, 0, none⟩ = some (.string C0) ∧ W.cell? ⟨b + 1, 1, none⟩ = some (.string C1) ∧ W.cell? ⟨b + 1, 2, none⟩ = some (.string C2) ∧ W.cell? ⟨b + 1, 3, none⟩ = some (.string C3) ∧ W.cell? ⟨b + 1, 4, none⟩ = some (.string C4) ∧ W.cell? ⟨b + 1, 5, none⟩ = some (.string C5) ∧ W.cell? ⟨b + 1, 6, none⟩ = some (.string C6) ∧ W.cell? ⟨b + 1, 7, none⟩ = some (.string C7) ∧ W.cell? ⟨b + 1, 8, none⟩ = some (.string C8) ∧ W.cell? ⟨b + 1, 9, none⟩ = some (.string C9) ∧ W.cell? ⟨b + 1, 10, none⟩ = some (.slice CA CN CC) ∧ W.cell? ⟨b + 1, 11, none⟩ = some (.bool y.fRevoked)) := fun W hb => by
    have k := blk_below k0 hb
    have k' := blk_below k1 hb
    exact ⟨⟨cell_here k, cell_here k, cell_here k, cell_here k, cell_here k, cell_here k, cell_here k, cell_here k, cell_here k, cell_here k, cell_here k, cell_here k⟩, cell_here k', cell_here k', cell_here k', cell_here k', cell_here k', cell_here k', cell_here k', cell_here k', cell_here k', cell_here k', cell_here k', cell_here k'⟩
  have HF1 := Lib.hid hf1; have HF2 := Lib.hid hf2; have HB0 := Lib.hid hb0; have HCB := Lib.hid hcb; have HW0 := Lib.hid hW0; have HB := Lib.hid hb
  clear hf1 hf2 hb0 hcb hW0 hb k0 k1 heq hT1 hT2 hvB hvC ho ho' hBN hCN hl hl' hB0 hB1 hB2 hB3 hB4 hB5 hB6 hB7 hB8 hB9 hC0 hC1 hC2 hC3 hC4 hC5 hC6 hC7 hC8 hC9
  go_enter Tryd.func26, Tryd.ntmps26
  go_upto_region 1 with fail
  rw [HW0.out, HB.out]
  refine wp_region_held_drew (S := (fun W => (W.cell? ⟨b, 0, none⟩ = some (.string B0) ∧ W.cell? ⟨b, 1, none⟩ = some (.string B1) ∧ W.cell? ⟨b, 2, none⟩ = some (.string B2) ∧ W.cell? ⟨b, 3, none⟩ = some (.string B3) ∧ W.cell? ⟨b, 4, none⟩ = some (.string B4) ∧ W.cell? ⟨b, 5, none⟩ = some (.string B5) ∧ W.cell? ⟨b, 6, none⟩ = some (.string B6) ∧ W.cell? ⟨b, 7, none⟩ = some (.string B7) ∧ W.cell? ⟨b, 8, none⟩ = some (.string B8) ∧ W.cell? ⟨b, 9, none⟩ = some (.string B9) ∧ W.cell? ⟨b, 10, none⟩ = some (.slice BA BN BC) ∧ W.cell? ⟨b, 11, none⟩ = some (.bool x.fRevoked)) ∧ (W.cell? ⟨b + 1, 0, none⟩ = some (.string C0) ∧ W.cell? ⟨b + 1, 1, none⟩ = some (.string C1) ∧ W.cell? ⟨b + 1, 2, none⟩ = some (.string C2) ∧ W.cell? ⟨b + 1, 3, none⟩ = some (.string C3) ∧ W.cell? ⟨b + 1, 4, none⟩ = some (.string C4) ∧ W.cell? ⟨b + 1, 5, none⟩ = some (.string C5) ∧ W.cell? ⟨b + 1, 6, none⟩ = some (.string C6) ∧ W.cell? ⟨b + 1, 7, none⟩ = some (.string C7) ∧ W.cell? ⟨b + 1, 8, none⟩ = some (.string C8) ∧ W.cell? ⟨b + 1, 9, none⟩ = some (.string C9) ∧ W.cell? ⟨b + 1, 10, none⟩ = some (.slice CA CN CC) ∧ W.cell? ⟨b + 1, 11, none⟩ = some (.bool y.fRevoked)))) (by kernel_rfl) (HCB.out _ (Below.refl _ _).drew) (fun hHeld => ?_)
  refine wpAnyH_take (i := 0) (oi := _) (v := ?v1) (by simp only [List.getElem?_toArray, List.getElem?_cons_succ, List.getElem?_cons_zero]; rfl) (by kernel_rfl) (by kernel_rfl) (by kernel_rfl) (by exact fun _ _ _ h => h) (Or.inl ⟨by rfl, ?hy1⟩) (by assumption) ?rest1
  case hy1 => (intro w hSw; (try dsimp only at hSw); go_simp; try with_reducible rfl)
  try simp only [Act.put, List.setIfInBounds_toArray, List.set_cons_zero, List.set_cons_succ]
  refine wpAnyH_take (i := 2) (oi := _) (v := ?v2) (by simp only [List.getElem?_toArray, List.getElem?_cons_succ, List.getElem?_cons_zero]; rfl) (by kernel_rfl) (by kernel_rfl) (by kernel_rfl) (by exact fun _ _ _ h => h) (Or.inl ⟨by rfl, ?hy2⟩) (by assumption) ?rest2
  case hy2 => (intro w hSw; (try dsimp only at hSw); go_simp; try with_reducible rfl)
  try simp only [Act.put, List.setIfInBounds_toArray, List.set_cons_zero, List.set_cons_succ]
  refine wpAnyH_ready (rs := [1]) (by kernel_rfl) (by simp) ?_
  refine AllReadyH.cons (o := _) (by simp only [List.getElem?_toArray, List.getElem?_cons_succ, List.getElem?_cons_zero]; rfl) (fun K hK => ?_) AllReadyH.nil
  go_simp
  go_at_call 25
  (with_reducible refine (HF1.out _ (HB0.out.chain (Below.refl _ _).drew)).mono ?_)
  rintro e w1 ⟨rfl, hb1⟩
  have Q1 := Lib.hid ((Below.refl W0.heap.size W0).drew.chain hb1); clear hb1
  dsimp only
  refine hK.out _ _ (HCB.out _ Q1.out) (fun hHeld => ?_)
  clear hK K
  try simp only [Act.put, List.setIfInBounds_toArray, List.set_cons_zero, List.set_cons_succ]
  refine wpAnyH_ready (rs := [3]) (by kernel_rfl) (by simp) ?_
  refine AllReadyH.cons (o := _) (by simp only [List.getElem?_toArray, List.getElem?_cons_succ, List.getElem?_cons_zero]; rfl) (fun K hK => ?_) AllReadyH.nil
  go_simp
  go_at_call 25
  (with_reducible refine (HF2.out _ (HB0.out.chain Q1.out)).mono ?_)
  rintro e w2 ⟨rfl, hb2⟩
  have Q2 := Lib.hid (Q1.out.chain hb2); clear hb2
  dsimp only
  refine hK.out _ _ (HCB.out _ Q2.out) (fun hHeld => ?_)
  clear hK K
  try simp only [Act.put, List.setIfInBounds_toArray, List.set_cons_zero, List.set_cons_succ]
  refine wpAnyH_take (i := 4) (oi := _) (v := ?v5) (by simp only [List.getElem?_toArray, List.getElem?_cons_succ, List.getElem?_cons_zero]; rfl) (by kernel_rfl) (by kernel_rfl) (by kernel_rfl) (by exact fun _ _ _ h => h) (Or.inl ⟨by rfl, ?hy5⟩) (by assumption) ?rest5
  case hy5 => (intro w hSw; (try dsimp only at hSw); go_simp; try with_reducible rfl)
  try simp only [Act.put, List.setIfInBounds_toArray, List.set_cons_zero, List.set_cons_succ]
  refine wpAnyH_take (i := 5) (oi := _) (v := ?v6) (by simp only [List.getElem?_toArray, List.getElem?_cons_succ, List.getElem?_cons_zero]; rfl) (by kernel_rfl) (by kernel_rfl) (by kernel_rfl) (by exact fun _ _ _ h => h) (Or.inl ⟨by rfl, ?hy6⟩) (by assumption) ?rest6
  case hy6 => (intro w hSw; (try dsimp only at hSw); go_simp; try with_reducible rfl)
  try simp only [Act.put, List.setIfInBounds_toArray, List.set_cons_zero, List.set_cons_succ]
  refine wpAnyH_done (by kernel_rfl) ?_ _
  go_wp2
  go_ret
  exact ⟨rfl, HB0.out.chain Q2.out⟩
end Go.Proofs.YtefnkkjmcfpiaaaDoor
