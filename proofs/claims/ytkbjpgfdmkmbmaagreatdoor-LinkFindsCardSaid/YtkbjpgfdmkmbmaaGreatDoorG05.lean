/- Texts merged by program, in build order: HashSum. -/
import Derived.Test.YtkbjpgfdmkmbmaaGreatDoorG04
set_option linter.unusedVariables false
set_option linter.unusedSimpArgs false
namespace Go.Proofs.YtkbjpgfdmkmbmaaGreatDoor
open Go.RowKit

theorem ext_pre_list' (s : ByteArray) (k : Nat) : (s.extract 0 k).data.toList = s.data.toList.take k := by
  simp [ByteArray.data_extract, List.extract]
theorem ext_suf' (s : ByteArray) (k : Nat) : (s.extract k s.size).data.toList = s.data.toList.drop k := by
  have h : s.size = s.data.size := rfl
  rw [ByteArray.data_extract, Array.toList_extract, h]
  simp [List.extract, List.take_of_length_le]
/-! ## a schedule looks at its own block alone -/
theorem wordL_sub (l l' : List UInt8) (p p' i : Nat) (h : ∀ j, j < 64 → l.getD (p + j) 0 = l'.getD (p' + j) 0) (hi : i < 16) : wordL l (p + 4 * i) = wordL l' (p' + 4 * i) := by
  unfold wordL
  rw [show p + 4 * i + 1 = p + (4 * i + 1) by omega, show p + 4 * i + 2 = p + (4 * i + 2) by omega, show p + 4 * i + 3 = p + (4 * i + 3) by omega,
    show p' + 4 * i + 1 = p' + (4 * i + 1) by omega, show p' + 4 * i + 2 = p' + (4 * i + 2) by omega, show p' + 4 * i + 3 = p' + (4 * i + 3) by omega,
    h _ (by omega), h _ (by omega), h _ (by omega), h _ (by omega)]
theorem schedL_sub (l l' : List UInt8) (p p' : Nat) (h : ∀ j, j < 64 → l.getD (p + j) 0 = l'.getD (p' + j) 0) : ∀ n, schedL l p n = schedL l' p' n
  | 0 => rfl
  | n + 1 => by
    rw [schedL, schedL, schedL_sub l l' p p' h n]
    by_cases hn : n < 16
    · rw [if_pos hn, if_pos hn, wordL_sub l l' p p' n h hn]
    · rw [if_neg hn, if_neg hn]
theorem roundsW_sub (l l' : List UInt8) (p p' : Nat) (s : S8) (h : ∀ j, j < 64 → l.getD (p + j) 0 = l'.getD (p' + j) 0) : ∀ n, roundsW l p s n = roundsW l' p' s n
  | 0 => rfl
  | n + 1 => by
    rw [roundsW, roundsW, roundsW_sub l l' p p' s h n]
    unfold schedW
    rw [schedL_sub l l' p p' h]
theorem blockW_sub (l l' : List UInt8) (p p' : Nat) (s : S8) (h : ∀ j, j < 64 → l.getD (p + j) 0 = l'.getD (p' + j) 0) : blockW l p s = blockW l' p' s := by
  unfold blockW; rw [roundsW_sub l l' p p' s h]
/-- all blocks of a text, from a state on -/
def eatW (s : S8) (l : List UInt8) : Nat → S8
  | 0 => s
  | j + 1 => blockW l (64 * j) (eatW s l j)
theorem eatW_blocks (l : List UInt8) (n : Nat) : eatW h0 l n = blocksW l n := by
  induction n with
  | zero => rfl
  | succ n ih => rw [eatW, blocksW, ih]
theorem blocksW_pre (l l' : List UInt8) (n : Nat) (h : ∀ j, j < 64 * n → l.getD j 0 = l'.getD j 0) : blocksW l n = blocksW l' n := by
  induction n with
  | zero => rfl
  | succ n ih => rw [blocksW, blocksW, ih (fun j hj => h j (by omega)), blockW_sub l l' (64 * n) (64 * n) _ (fun j hj => h _ (by omega))]
theorem padL_split (l : List UInt8) (m : Nat) (hm : 64 * m ≤ l.length) (hr : l.length < 64 * m + 64) : padL l = l.take (64 * m) ++ endL (l.drop (64 * m)) l.length := by
  have e : zerosN l.length = zerosN (l.drop (64 * m)).length := by
    rw [List.length_drop]; unfold zerosN
    have : l.length % 64 = (l.length - 64 * m) % 64 := by omega
    rw [this]
  unfold padL endL
  rw [← e]
  simp only [← List.append_assoc, List.take_append_drop]
theorem getD_take_app (l e : List UInt8) (m k : Nat) (hk : k < m) (hm : m ≤ l.length) : l.getD k 0 = (l.take m ++ e).getD k 0 := by
  have h1 : k < (l.take m).length := by rw [List.length_take]; omega
  rw [List.getD_eq_getElem?_getD, List.getD_eq_getElem?_getD, List.getElem?_append_left h1, List.getElem?_take_of_lt hk]
def vstr : Value → Nat
  | .string s => s.size
  | _ => 0
theorem setAll8 (s s' : S8) : setAll (h0Cells s) 0 (h0Cells s').toList = h0Cells s' := by kernel_rfl
theorem set8_heap {w : World} {b : Nat} {s s' : S8} {t : TypeId} (h : w.heap[b]? = some (.cells (h0Cells s) t)) : (w.setCells b 0 (h0Cells s').toList).heap[b]? = some (.cells (h0Cells s') t) := by
  have := setCells_heap (h0Cells s').toList 0 w _ h
  rw [setAll8] at this; exact this
theorem there8 {w : World} {b : Nat} {s : S8} {t : TypeId} (h : w.heap[b]? = some (.cells (h0Cells s) t)) : w.there b 0 8 := fun j hj => by
  rw [Nat.zero_add]
  refine ⟨?_, frozen_of_heap h⟩
  rw [cell_of_heap h, eightC_s, eightC_at _ _ hj]; rfl
theorem h0_size (s : S8) : (h0Cells s).size = 8 := rfl
theorem h0_one (s : S8) : (h0Cells s).all (·.oneCell') = true := i8_one _ _ _ _ _ _ _ _
set_option maxRecDepth 100000 in
set_option maxHeartbeats 1000000 in
theorem sum_any (s : ByteArray) (hs : s.size ≤ 1048576) (w : World) (hr : RoundsIn w) :
    Calls Tryz.prog 70 #[.string s] w fun e w' => e = .returned (.string ⟨(sumL s.data.toList).toArray⟩) ∧ Below w.heap.size w w' := by
  have HR := Lib.hid hr; have HIE := Lib.hid info_eight; clear hr
  have hsl : s.data.toList.length = s.size := rfl
  go_enter Tryz.func70, Tryz.ntmps70
  go_wp2
  go_loopw [4] (fun v W => ∃ (j : Nat) (R : ByteArray), 64 * j ≤ s.size ∧ v = .string R ∧ R.data.toList = s.data.toList.drop (64 * j) ∧ W.heap[w.heap.size]? = some (.cells (h0Cells (blocksW s.data.toList j)) 137) ∧ Below w.heap.size w W) (fun v _ => vstr v)
  case atStart => exact ⟨0, s, by omega, rfl, rfl, heap_alloc_last w _, (Below.refl _ _).alloc (Nat.le_refl _) _⟩
  case round =>
    obtain ⟨j, R, hj, rfl, hR, hH, hbl⟩ := hrel
    have hRs : R.size = s.size - 64 * j := by
      have : R.data.toList.length = R.size := rfl
      rw [← this, hR, List.length_drop, hsl]
    by_cases hlt : 64 ≤ R.size
    · have hge : (64 : Int) ≤ (R.size : Int) := by omega
      have hd : decide ((64 : Int) ≤ (R.size : Int)) = true := by simp; omega
      have hx64 : (R.extract 0 64).size = 64 := by simp [ByteArray.size_extract]; omega
      have hbk : blockW (R.extract 0 64).data.toList 0 (blocksW s.data.toList j) = blocksW s.data.toList (j + 1) := by
        rw [blocksW]
        refine blockW_sub _ _ _ _ _ (fun k hk => ?_)
        rw [ext_pre_list', hR]
        simp [List.getD, hk]
      have hxr : (R.extract 64 R.size).data.toList = s.data.toList.drop (64 * (j + 1)) := by
        rw [ext_suf', hR, List.drop_drop]; congr 1
      have hsz' : (R.extract 64 R.size).size = R.size - 64 := by simp [ByteArray.size_extract]
      generalize hS : blocksW s.data.toList j = S at *
      have hlw : w.heap.size < wr.drew.heap.size := (Array.getElem?_eq_some_iff.1 hH).1
      have c0 : wr.cell? ⟨w.heap.size, 0, none⟩ = some (.int .u32 (S.a.toNat : Int)) := cell_of_heap hH 0
      have c1 : wr.cell? ⟨w.heap.size, 1, none⟩ = some (.int .u32 (S.b.toNat : Int)) := cell_of_heap hH 1
      have c2 : wr.cell? ⟨w.heap.size, 2, none⟩ = some (.int .u32 (S.c.toNat : Int)) := cell_of_heap hH 2
      have c3 : wr.cell? ⟨w.heap.size, 3, none⟩ = some (.int .u32 (S.d.toNat : Int)) := cell_of_heap hH 3
      have c4 : wr.cell? ⟨w.heap.size, 4, none⟩ = some (.int .u32 (S.e.toNat : Int)) := cell_of_heap hH 4
      have c5 : wr.cell? ⟨w.heap.size, 5, none⟩ = some (.int .u32 (S.f.toNat : Int)) := cell_of_heap hH 5
      have c6 : wr.cell? ⟨w.heap.size, 6, none⟩ = some (.int .u32 (S.g.toNat : Int)) := cell_of_heap hH 6
      have c7 : wr.cell? ⟨w.heap.size, 7, none⟩ = some (.int .u32 (S.h.toNat : Int)) := cell_of_heap hH 7
      have hri : RoundsIn wr.drew := (HR.out.below hbl).below (Below.refl _ _).drew
      have HRI := Lib.hid hri; have HX64 := Lib.hid hx64; have HBK := Lib.hid hbk; have HXR := Lib.hid hxr; have HSZ := Lib.hid hsz'; have HH := Lib.hid hH; have HRR := Lib.hid hR; have HRS := Lib.hid hRs; have HSL := Lib.hid hsl; have HS := Lib.hid hS
      clear hri hx64 hbk hxr hsz' hH hR hRs hsl hS
      go_wp2
      refine wp_region_quiet_tail 3 (by kernel_rfl) (by kernel_rfl) ?_
      simp only [List.take_succ_cons, List.take_zero, List.drop_succ_cons, List.drop_zero]
      repeat (go_big_quiet_step (fail))
      refine wpQuiet_nil ?_
      clear c0 c1 c2 c3 c4 c5 c6 c7
      have hHd : wr.drew.heap[w.heap.size]? = some (.cells (h0Cells S) 137) := HH.out
      go_wp2_with fail
      refine (stir_any S _ HX64.out _ HRI.out).mono ?_
      rintro e W1 ⟨rfl, hb1⟩
      have hH1 : W1.heap[w.heap.size]? = some (.cells (h0Cells S) 137) := (hb1.block w.heap.size hlw).trans hHd
      have hd1 : Below w.heap.size w wr.drew := hbl.drew
      have hb01 : Below w.heap.size w W1 := hd1.trans (hb1.mono hd1.size)
      rw [HBK.out]
      have HH1 := Lib.hid hH1; have HB01 := Lib.hid hb01; clear hH1 hb01 hb1
      have HONE := Lib.hid (h0_one (blocksW s.data.toList (j + 1)))
      generalize hS1 : blocksW s.data.toList (j + 1) = S1 at *
      have HS1 := Lib.hid hS1; clear hS1
      have HTH : Hid (W1.there w.heap.size 0 (h0Cells S1).size) := Lib.hid (by rw [h0_size]; exact there8 HH1.out)
      have HI8 : Hid ((Tryz.prog.info? 137).map (·.size) = some (h0Cells S1).size) := Lib.hid (by rw [h0_size]; exact HIE.out)
      dsimp only
      go_step
      refine wpList_store_mid rfl 137 (.tmp 3) (.tmp 14) rfl w.heap.size 0 (h0Cells S1) rfl rfl HTH.out HI8.out HONE.out ?_
      have hH2 := set8_heap (s' := S1) HH1.out
      have hb2 := below_setCells HB01.out (Nat.le_refl w.heap.size) (h0Cells S1).toList 0
      generalize W1.setCells w.heap.size 0 (h0Cells S1).toList = W2 at *
      have HH2 := Lib.hid hH2; clear hH2
      go_wp2
      refine ⟨⟨j + 1, R.extract 64 R.size, by have := HRS.out; omega, rfl, HXR.out, by rw [HS1.out]; exact HH2.out, hb2⟩, ?_⟩
      show (R.extract 64 R.size).size < R.size
      rw [HSZ.out]; omega
    · have hge : decide ((64 : Int) ≤ (R.size : Int)) = false := by simp; omega
      have hsp := padL_split s.data.toList j (by rw [hsl]; exact hj) (by rw [hsl]; omega)
      have hpl := padL_len s.data.toList
      rw [← hR, hsl] at hsp
      have htl : (s.data.toList.take (64 * j)).length = 64 * j := by rw [List.length_take, hsl]; omega
      have hd0 : endL R.data.toList s.size = (padL s.data.toList).drop (64 * j) := by
        rw [hsp, List.drop_append_of_le_length (by omega), List.drop_of_length_le (by omega), List.nil_append]
      have hb0 : blocksW s.data.toList j = blocksW (padL s.data.toList) j := blocksW_pre _ _ j (fun k hk => by
        rw [hsp]; exact getD_take_app _ _ _ _ hk (by rw [hsl]; exact hj))
      have hlen : (padL s.data.toList).length = s.size + 1 + zerosN s.size + 8 := by rw [hpl.1, hsl]
      have hle : 64 * j ≤ (padL s.data.toList).length := by omega
      have h64 := hpl.2
      have hfin : sumL s.data.toList = outL (blocksW (padL s.data.toList) ((padL s.data.toList).length / 64)) := rfl
      rw [hb0] at hH
      generalize padL s.data.toList = M at *
      have hmax : M.length ≤ 1048800 := by rw [hlen]; unfold zerosN; omega
      have hlw : w.heap.size < wr.heap.size := (Array.getElem?_eq_some_iff.1 hH).1
      have HH := Lib.hid hH; have HD0 := Lib.hid hd0; have HFIN := Lib.hid hfin; have H64 := Lib.hid h64
      clear hH hd0 hfin h64 hsp hpl htl hb0 hlen hR hRs
      go_wp2_with fail
      refine (ending_any R s.size (by omega) (by omega) _).mono ?_
      rintro e W0 ⟨rfl, hbE⟩
      have hH0 : W0.heap[w.heap.size]? = some (.cells (h0Cells (blocksW M j)) 137) := (hbE.block _ hlw).trans HH.out
      have hb0 : Below w.heap.size w W0 := hbl.trans (hbE.mono hbl.size)
      rw [HD0.out]
      have HH0 := Lib.hid hH0; clear hH0 hbE HH
      dsimp only
      go_wp2
      go_loopw [5] (fun v W => ∃ (j : Nat) (R : ByteArray), 64 * j ≤ M.length ∧ v = .string R ∧ R.data.toList = M.drop (64 * j) ∧ W.heap[w.heap.size]? = some (.cells (h0Cells (blocksW M j)) 137) ∧ Below w.heap.size w W) (fun v _ => vstr v)
      case atStart => exact ⟨j, ⟨(M.drop (64 * j)).toArray⟩, hle, rfl, rfl, HH0.out, hb0⟩
      case round =>
        clear hb0 hbl hge hlw hlt hle
        obtain ⟨j, R, hj, rfl, hR, hH, hbl⟩ := hrel
        have hRs : R.size = M.length - 64 * j := by
          have : R.data.toList.length = R.size := rfl
          rw [← this, hR, List.length_drop]
        by_cases hlt : 64 * j < M.length
        · have hge0 : 64 ≤ R.size := by have := H64.out; omega
          have hge : (64 : Int) ≤ (R.size : Int) := by omega
          have hne : (!R.toList.isEmpty) = true := by
            rw [ByteArray.toList_eq]
            have : R.data.toList.length = R.size := rfl
            cases h : R.data.toList with
            | nil => rw [h] at this; simp at this; omega
            | cons _ _ => rfl
          have hx64 : (R.extract 0 64).size = 64 := by simp [ByteArray.size_extract]; omega
          have hbk : blockW (R.extract 0 64).data.toList 0 (blocksW M j) = blocksW M (j + 1) := by
            rw [blocksW]
            refine blockW_sub _ _ _ _ _ (fun k hk => ?_)
            rw [ext_pre_list', hR]
            simp [List.getD, hk]
          have hxr : (R.extract 64 R.size).data.toList = M.drop (64 * (j + 1)) := by
            rw [ext_suf', hR, List.drop_drop]; congr 1
          have hsz' : (R.extract 64 R.size).size = R.size - 64 := by simp [ByteArray.size_extract]
          generalize hS : blocksW M j = S at *
          have hlw : w.heap.size < wr.drew.heap.size := (Array.getElem?_eq_some_iff.1 hH).1
          have c0 : wr.cell? ⟨w.heap.size, 0, none⟩ = some (.int .u32 (S.a.toNat : Int)) := cell_of_heap hH 0
          have c1 : wr.cell? ⟨w.heap.size, 1, none⟩ = some (.int .u32 (S.b.toNat : Int)) := cell_of_heap hH 1
          have c2 : wr.cell? ⟨w.heap.size, 2, none⟩ = some (.int .u32 (S.c.toNat : Int)) := cell_of_heap hH 2
          have c3 : wr.cell? ⟨w.heap.size, 3, none⟩ = some (.int .u32 (S.d.toNat : Int)) := cell_of_heap hH 3
          have c4 : wr.cell? ⟨w.heap.size, 4, none⟩ = some (.int .u32 (S.e.toNat : Int)) := cell_of_heap hH 4
          have c5 : wr.cell? ⟨w.heap.size, 5, none⟩ = some (.int .u32 (S.f.toNat : Int)) := cell_of_heap hH 5
          have c6 : wr.cell? ⟨w.heap.size, 6, none⟩ = some (.int .u32 (S.g.toNat : Int)) := cell_of_heap hH 6
          have c7 : wr.cell? ⟨w.heap.size, 7, none⟩ = some (.int .u32 (S.h.toNat : Int)) := cell_of_heap hH 7
          have hri : RoundsIn wr.drew := (HR.out.below hbl).below (Below.refl _ _).drew
          have HRI := Lib.hid hri; have HX64 := Lib.hid hx64; have HBK := Lib.hid hbk; have HXR := Lib.hid hxr; have HSZ := Lib.hid hsz'; have HH := Lib.hid hH; have HRR := Lib.hid hR; have HRS := Lib.hid hRs; have HS := Lib.hid hS; have HLT := Lib.hid hlt; have HSL := Lib.hid hsl
          clear hri hx64 hbk hxr hsz' hH hR hRs hS hlt hge0 hsl
          go_wp2
          refine wp_region_quiet_tail 3 (by kernel_rfl) (by kernel_rfl) ?_
          simp only [List.take_succ_cons, List.take_zero, List.drop_succ_cons, List.drop_zero]
          repeat (go_big_quiet_step (fail))
          refine wpQuiet_nil ?_
          clear c0 c1 c2 c3 c4 c5 c6 c7
          have hHd : wr.drew.heap[w.heap.size]? = some (.cells (h0Cells S) 137) := HH.out
          go_wp2_with fail
          refine (stir_any S _ HX64.out _ HRI.out).mono ?_
          rintro e W1 ⟨rfl, hb1⟩
          have hH1 : W1.heap[w.heap.size]? = some (.cells (h0Cells S) 137) := (hb1.block w.heap.size hlw).trans hHd
          have hd1 : Below w.heap.size w wr.drew := hbl.drew
          have hb01 : Below w.heap.size w W1 := hd1.trans (hb1.mono hd1.size)
          rw [HBK.out]
          have HH1 := Lib.hid hH1; have HB01 := Lib.hid hb01; clear hH1 hb01 hb1 hHd
          have HONE := Lib.hid (h0_one (blocksW M (j + 1)))
          generalize hS1 : blocksW M (j + 1) = S1 at *
          have HS1 := Lib.hid hS1; clear hS1
          have HTH : Hid (W1.there w.heap.size 0 (h0Cells S1).size) := Lib.hid (by rw [h0_size]; exact there8 HH1.out)
          have HI8 : Hid ((Tryz.prog.info? 137).map (·.size) = some (h0Cells S1).size) := Lib.hid (by rw [h0_size]; exact HIE.out)
          dsimp only
          go_step
          refine wpList_store_mid rfl 137 (.tmp 3) (.tmp 28) rfl w.heap.size 0 (h0Cells S1) rfl rfl HTH.out HI8.out HONE.out ?_
          have hH2 := set8_heap (s' := S1) HH1.out
          have hb2 := below_setCells HB01.out (Nat.le_refl w.heap.size) (h0Cells S1).toList 0
          generalize W1.setCells w.heap.size 0 (h0Cells S1).toList = W2 at *
          have HH2 := Lib.hid hH2; clear hH2
          go_wp2
          refine ⟨⟨j + 1, R.extract 64 R.size, by have := HLT.out; have := H64.out; omega, rfl, HXR.out, by rw [HS1.out]; exact HH2.out, hb2⟩, ?_⟩
          show (R.extract 64 R.size).size < R.size
          rw [HSZ.out]; omega
        · have hje : j = M.length / 64 := by omega
          have hem : R.toList = [] := by
            rw [ByteArray.toList_eq, hR]
            exact List.drop_of_length_le (by omega)
          have hem2 : (!R.toList.isEmpty) = false := by rw [hem]; rfl
          generalize hS : blocksW M j = S at *
          have c0 : wr.cell? ⟨w.heap.size, 0, none⟩ = some (.int .u32 (S.a.toNat : Int)) := cell_of_heap hH 0
          have c1 : wr.cell? ⟨w.heap.size, 1, none⟩ = some (.int .u32 (S.b.toNat : Int)) := cell_of_heap hH 1
          have c2 : wr.cell? ⟨w.heap.size, 2, none⟩ = some (.int .u32 (S.c.toNat : Int)) := cell_of_heap hH 2
          have c3 : wr.cell? ⟨w.heap.size, 3, none⟩ = some (.int .u32 (S.d.toNat : Int)) := cell_of_heap hH 3
          have c4 : wr.cell? ⟨w.heap.size, 4, none⟩ = some (.int .u32 (S.e.toNat : Int)) := cell_of_heap hH 4
          have c5 : wr.cell? ⟨w.heap.size, 5, none⟩ = some (.int .u32 (S.f.toNat : Int)) := cell_of_heap hH 5
          have c6 : wr.cell? ⟨w.heap.size, 6, none⟩ = some (.int .u32 (S.g.toNat : Int)) := cell_of_heap hH 6
          have c7 : wr.cell? ⟨w.heap.size, 7, none⟩ = some (.int .u32 (S.h.toNat : Int)) := cell_of_heap hH 7
          have HJ := Lib.hid hje; have HS := Lib.hid hS; have HB := Lib.hid hbl; have HSL := Lib.hid hsl
          clear hje hH hR hRs hS hbl hsl
          go_wp2_with fail
          refine (printed_any S _).mono ?_
          rintro e W1 ⟨rfl, hb1⟩
          have hb2 : Below w.heap.size w W1 := HB.out.trans (hb1.mono HB.out.size)
          clear c0 c1 c2 c3 c4 c5 c6 c7 hb1
          dsimp only
          go_wp2
          go_ret
          exact ⟨ret_str (by rw [HFIN.out, ← HJ.out, HS.out]), hb2⟩
end Go.Proofs.YtkbjpgfdmkmbmaaGreatDoor
