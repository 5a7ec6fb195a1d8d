/- Texts merged by program, in build order: HashSum, Equal, Quote, PkceCode, LaidHash. -/
import Derived.Test.YtdiljjoaihfloaaDoorC03
import Derived.Test.YtdiljjoaihfloaaDoorC04
import Derived.Lib.LaidTab
import Derived.LaidMore
import Derived.OpenShut
import Derived.ProofKit
import Derived.Stop.Joined
namespace Go.Proofs.YtdiljjoaihfloaaDoor
open Go.RowKit

theorem ext_pre_list' (s : ByteArray) (k : Nat) : (s.extract 0 k).data.toList = s.data.toList.take k := by
  simp [ByteArray.data_extract, List.extract]
theorem ext_suf' (s : ByteArray) (k : Nat) : (s.extract k s.size).data.toList = s.data.toList.drop k := by
  have h : s.size = s.data.size := rfl
  rw [ByteArray.data_extract, Array.toList_extract, h]
  simp [List.extract, List.take_of_length_le]
/-! ## a schedule looks at its own block alone -/
theorem wordL_sub (l l' : List UInt8) (p p' i : Nat) (h : ∀ j, j < 64 → l.getD (p + j) 0 = l'.getD (p' + j) 0) (hi : i < 16) : wordL l (p + 4 * i) = wordL l' (p' + 4 * i) := by
  unfold wordL
  rw [show p + 4 * i + 1 = p + (4 * i + 1) by omega, show p + 4 * i + 2 = p + (4 * i + 2) by omega, show p + 4 * i + 3 = p + (4 * i + 3) by omega,
    show p' + 4 * i + 1 = p' + (4 * i + 1) by omega, show p' + 4 * i + 2 = p' + (4 * i + 2) by omega, show p' + 4 * i + 3 = p' + (4 * i + 3) by omega,
    h _ (by omega), h _ (by omega), h _ (by omega), h _ (by omega)]
theorem schedL_sub (l l' : List UInt8) (p p' : Nat) (h : ∀ j, j < 64 → l.getD (p + j) 0 = l'.getD (p' + j) 0) : ∀ n, schedL l p n = schedL l' p' n
  | 0 => rfl
  | n + 1 => by
    rw [schedL, schedL, schedL_sub l l' p p' h n]
    by_cases hn : n < 16
    · rw [if_pos hn, if_pos hn, wordL_sub l l' p p' n h hn]
    · rw [if_neg hn, if_neg hn]
theorem roundsW_sub (l l' : List UInt8) (p p' : Nat) (s : S8) (h : ∀ j, j < 64 → l.getD (p + j) 0 = l'.getD (p' + j) 0) : ∀ n, roundsW l p s n = roundsW l' p' s n
  | 0 => rfl
  | n + 1 => by
    rw [roundsW, roundsW, roundsW_sub l l' p p' s h n]
    unfold schedW
    rw [schedL_sub l l' p p' h]
theorem blockW_sub (l l' : List UInt8) (p p' : Nat) (s : S8) (h : ∀ j, j < 64 → l.getD (p + j) 0 = l'.getD (p' + j) 0) : blockW l p s = blockW l' p' s := by
  unfold blockW; rw [roundsW_sub l l' p p' s h]
/-- all blocks of a text, from a state on -/
def eatW (s : S8) (l : List UInt8) : Nat → S8
  | 0 => s
  | j + 1 => blockW l (64 * j) (eatW s l j)
theorem eatW_blocks (l : List UInt8) (n : Nat) : eatW h0 l n = blocksW l n := by
  induction n with
  | zero => rfl
  | succ n ih => rw [eatW, blocksW, ih]
theorem blocksW_pre (l l' : List UInt8) (n : Nat) (h : ∀ j, j < 64 * n → l.getD j 0 = l'.getD j 0) : blocksW l n = blocksW l' n := by
  induction n with
  | zero => rfl
  | succ n ih => rw [blocksW, blocksW, ih (fun j hj => h j (by omega)), blockW_sub l l' (64 * n) (64 * n) _ (fun j hj => h _ (by omega))]
theorem padL_split (l : List UInt8) (m : Nat) (hm : 64 * m ≤ l.length) (hr : l.length < 64 * m + 64) : padL l = l.take (64 * m) ++ endL (l.drop (64 * m)) l.length := by
  have e : zerosN l.length = zerosN (l.drop (64 * m)).length := by
    rw [List.length_drop]; unfold zerosN
    have : l.length % 64 = (l.length - 64 * m) % 64 := by omega
    rw [this]
  unfold padL endL
  rw [← e]
  simp only [← List.append_assoc, List.take_append_drop]
theorem getD_take_app (l e : List UInt8) (m k : Nat) (hk : k < m) (hm : m ≤ l.length) : l.getD k 0 = (l.take m ++ e).getD k 0 := by
  have h1 : k < (l.take m).length := by rw [List.length_take]; omega
  rw [List.getD_eq_getElem?_getD, List.getD_eq_getElem?_getD, List.getElem?_append_left h1, List.getElem?_take_of_lt hk]
def vstr : Value → Nat
  | .string s => s.size
  | _ => 0
theorem setAll8 (s s' : S8) : setAll (h0Cells s) 0 (h0Cells s').toList = h0Cells s' := by kernel_rfl
theorem set8_heap {w : World} {b : Nat} {s s' : S8} {t : TypeId} (h : w.heap[b]? = some (.cells (h0Cells s) t)) : (w.setCells b 0 (h0Cells s').toList).heap[b]? = some (.cells (h0Cells s') t) := by
  have := setCells_heap (h0Cells s').toList 0 w _ h
  rw [setAll8] at this; exact this
theorem there8 {w : World} {b : Nat} {s : S8} {t : TypeId} (h : w.heap[b]? = some (.cells (h0Cells s) t)) : w.there b 0 8 := fun j hj => by
  rw [Nat.zero_add]
  refine ⟨?_, frozen_of_heap h⟩
  rw [cell_of_heap h, eightC_s, eightC_at _ _ hj]; rfl
theorem h0_size (s : S8) : (h0Cells s).size = 8 := rfl
theorem h0_one (s : S8) : (h0Cells s).all (·.oneCell') = true := i8_one _ _ _ _ _ _ _ _
set_option maxRecDepth 100000 in
set_option maxHeartbeats 1000000 in
theorem sum_any (s : ByteArray) (hs : s.size ≤ 1048576) (w : World) (hr : RoundsIn w) :
    Calls Tryd.prog 19 #[.string s] w fun e w' => e = .returned (.string ⟨(sumL s.data.toList).toArray⟩) ∧ Below w.heap.size w w' := by
  have HR := Lib.hid hr; have HIE := Lib.hid info_eight; clear hr
  have hsl : s.data.toList.length = s.size := rfl
  go_enter Tryd.func19, Tryd.ntmps19
  go_wp2
  go_loopw [4] (fun v W => ∃ (j : Nat) (R : ByteArray), 64 * j ≤ s.size ∧ v = .string R ∧ R.data.toList = s.data.toList.drop (64 * j) ∧ W.heap[w.heap.size]? = some (.cells (h0Cells (blocksW s.data.toList j)) 37) ∧ Below w.heap.size w W) (fun v _ => vstr v)
  case atStart => exact ⟨0, s, by omega, rfl, rfl, heap_alloc_last w _, (Below.refl _ _).alloc (Nat.le_refl _) _⟩
  case round =>
    obtain ⟨j, R, hj, rfl, hR, hH, hbl⟩ := hrel
    have hRs : R.size = s.size - 64 * j := by
      have : R.data.toList.length = R.size := rfl
      rw [← this, hR, List.length_drop, hsl]
    by_cases hlt : 64 ≤ R.size
    · have hge : (64 : Int) ≤ (R.size : Int) := by omega
      have hd : decide ((64 : Int) ≤ (R.size : Int)) = true := by simp; omega
      have hx64 : (R.extract 0 64).size = 64 := by simp [ByteArray.size_extract]; omega
      have hbk : blockW (R.extract 0 64).data.toList 0 (blocksW s.data.toList j) = blocksW s.data.toList (j + 1) := by
        rw [blocksW]
        refine blockW_sub _ _ _ _ _ (fun k hk => ?_)
        rw [ext_pre_list', hR]
        simp [List.getD, hk]
      have hxr : (R.extract 64 R.size).data.toList = s.data.toList.drop (64 * (j + 1)) := by
        rw [ext_suf', hR, List.drop_drop]; congr 1
      have hsz' : (R.extract 64 R.size).size = R.size - 64 := by simp [ByteArray.size_extract]
      generalize hS : blocksW s.data.toList j = S at *
      have hlw : w.heap.size < wr.drew.heap.size := (Array.getElem?_eq_some_iff.1 hH).1
      have c0 : wr.cell? ⟨w.heap.size, 0, none⟩ = some (.int .u32 (S.a.toNat : Int)) := cell_of_heap hH 0
      have c1 : wr.cell? ⟨w.heap.size, 1, none⟩ = some (.int .u32 (S.b.toNat : Int)) := cell_of_heap hH 1
      have c2 : wr.cell? ⟨w.heap.size, 2, none⟩ = some (.int .u32 (S.c.toNat : Int)) := cell_of_heap hH 2
      have c3 : wr.cell? ⟨w.heap.size, 3, none⟩ = some (.int .u32 (S.d.toNat : Int)) := cell_of_heap hH 3
      have c4 : wr.cell? ⟨w.heap.size, 4, none⟩ = some (.int .u32 (S.e.toNat : Int)) := cell_of_heap hH 4
      have c5 : wr.cell? ⟨w.heap.size, 5, none⟩ = some (.int .u32 (S.f.toNat : Int)) := cell_of_heap hH 5
      have c6 : wr.cell? ⟨w.heap.size, 6, none⟩ = some (.int .u32 (S.g.toNat : Int)) := cell_of_heap hH 6
      have c7 : wr.cell? ⟨w.heap.size, 7, none⟩ = some (.int .u32 (S.h.toNat : Int)) := cell_of_heap hH 7
      have hri : RoundsIn wr.drew := (HR.out.below hbl).below (Below.refl _ _).drew
      have HRI := Lib.hid hri; have HX64 := Lib.hid hx64; have HBK := Lib.hid hbk; have HXR := Lib.hid hxr; have HSZ := Lib.hid hsz'; have HH := Lib.hid hH; have HRR := Lib.hid hR; have HRS := Lib.hid hRs; have HSL := Lib.hid hsl; have HS := Lib.hid hS
      clear hri hx64 hbk hxr hsz' hH hR hRs hsl hS
      go_wp2
      refine wp_region_quiet_tail 3 (by kernel_rfl) (by kernel_rfl) ?_
      simp only [List.take_succ_cons, List.take_zero, List.drop_succ_cons, List.drop_zero]
      repeat (go_big_quiet_step (fail))
      refine wpQuiet_nil ?_
      clear c0 c1 c2 c3 c4 c5 c6 c7
      have hHd : wr.drew.heap[w.heap.size]? = some (.cells (h0Cells S) 37) := HH.out
      go_wp2_with fail
      refine (stir_any S _ HX64.out _ HRI.out).mono ?_
      rintro e W1 ⟨rfl, hb1⟩
      have hH1 : W1.heap[w.heap.size]? = some (.cells (h0Cells S) 37) := (hb1.block w.heap.size hlw).trans hHd
      have hd1 : Below w.heap.size w wr.drew := hbl.drew
      have hb01 : Below w.heap.size w W1 := hd1.trans (hb1.mono hd1.size)
      rw [HBK.out]
      have HH1 := Lib.hid hH1; have HB01 := Lib.hid hb01; clear hH1 hb01 hb1
      have HONE := Lib.hid (h0_one (blocksW s.data.toList (j + 1)))
      generalize hS1 : blocksW s.data.toList (j + 1) = S1 at *
      have HS1 := Lib.hid hS1; clear hS1
      have HTH : Hid (W1.there w.heap.size 0 (h0Cells S1).size) := Lib.hid (by rw [h0_size]; exact there8 HH1.out)
      have HI8 : Hid ((Tryd.prog.info? 37).map (·.size) = some (h0Cells S1).size) := Lib.hid (by rw [h0_size]; exact HIE.out)
      dsimp only
      go_step
      refine wpList_store_mid rfl 37 (.tmp 3) (.tmp 14) rfl w.heap.size 0 (h0Cells S1) rfl rfl HTH.out HI8.out HONE.out ?_
      have hH2 := set8_heap (s' := S1) HH1.out
      have hb2 := below_setCells HB01.out (Nat.le_refl w.heap.size) (h0Cells S1).toList 0
      generalize W1.setCells w.heap.size 0 (h0Cells S1).toList = W2 at *
      have HH2 := Lib.hid hH2; clear hH2
      go_wp2
      refine ⟨⟨j + 1, R.extract 64 R.size, by have := HRS.out; omega, rfl, HXR.out, by rw [HS1.out]; exact HH2.out, hb2⟩, ?_⟩
      show (R.extract 64 R.size).size < R.size
      rw [HSZ.out]; omega
    · have hge : decide ((64 : Int) ≤ (R.size : Int)) = false := by simp; omega
      have hsp := padL_split s.data.toList j (by rw [hsl]; exact hj) (by rw [hsl]; omega)
      have hpl := padL_len s.data.toList
      rw [← hR, hsl] at hsp
      have htl : (s.data.toList.take (64 * j)).length = 64 * j := by rw [List.length_take, hsl]; omega
      have hd0 : endL R.data.toList s.size = (padL s.data.toList).drop (64 * j) := by
        rw [hsp, List.drop_append_of_le_length (by omega), List.drop_of_length_le (by omega), List.nil_append]
      have hb0 : blocksW s.data.toList j = blocksW (padL s.data.toList) j := blocksW_pre _ _ j (fun k hk => by
        rw [hsp]; exact getD_take_app _ _ _ _ hk (by rw [hsl]; exact hj))
      have hlen : (padL s.data.toList).length = s.size + 1 + zerosN s.size + 8 := by rw [hpl.1, hsl]
      have hle : 64 * j ≤ (padL s.data.toList).length := by omega
      have h64 := hpl.2
      have hfin : sumL s.data.toList = outL (blocksW (padL s.data.toList) ((padL s.data.toList).length / 64)) := rfl
      rw [hb0] at hH
      generalize padL s.data.toList = M at *
      have hmax : M.length ≤ 1048800 := by rw [hlen]; unfold zerosN; omega
      have hlw : w.heap.size < wr.heap.size := (Array.getElem?_eq_some_iff.1 hH).1
      have HH := Lib.hid hH; have HD0 := Lib.hid hd0; have HFIN := Lib.hid hfin; have H64 := Lib.hid h64
      clear hH hd0 hfin h64 hsp hpl htl hb0 hlen hR hRs
      go_wp2_with fail
      refine (ending_any R s.size (by omega) (by omega) _).mono ?_
      rintro e W0 ⟨rfl, hbE⟩
      have hH0 : W0.heap[w.heap.size]? = some (.cells (h0Cells (blocksW M j)) 37) := (hbE.block _ hlw).trans HH.out
      have hb0 : Below w.heap.size w W0 := hbl.trans (hbE.mono hbl.size)
      rw [HD0.out]
      have HH0 := Lib.hid hH0; clear hH0 hbE HH
      dsimp only
      go_wp2
      go_loopw [5] (fun v W => ∃ (j : Nat) (R : ByteArray), 64 * j ≤ M.length ∧ v = .string R ∧ R.data.toList = M.drop (64 * j) ∧ W.heap[w.heap.size]? = some (.cells (h0Cells (blocksW M j)) 37) ∧ Below w.heap.size w W) (fun v _ => vstr v)
      case atStart => exact ⟨j, ⟨(M.drop (64 * j)).toArray⟩, hle, rfl, rfl, HH0.out, hb0⟩
      case round =>
        clear hb0 hbl hge hlw hlt hle
        obtain ⟨j, R, hj, rfl, hR, hH, hbl⟩ := hrel
        have hRs : R.size = M.length - 64 * j := by
          have : R.data.toList.length = R.size := rfl
          rw [← this, hR, List.length_drop]
        by_cases hlt : 64 * j < M.length
        · have hge0 : 64 ≤ R.size := by have := H64.out; omega
          have hge : (64 : Int) ≤ (R.size : Int) := by omega
          have hne : (!R.toList.isEmpty) = true := by
            rw [ByteArray.toList_eq]
            have : R.data.toList.length = R.size := rfl
            cases h : R.data.toList with
            | nil => rw [h] at this; simp at this; omega
            | cons _ _ => rfl
          have hx64 : (R.extract 0 64).size = 64 := by simp [ByteArray.size_extract]; omega
          have hbk : blockW (R.extract 0 64).data.toList 0 (blocksW M j) = blocksW M (j + 1) := by
            rw [blocksW]
            refine blockW_sub _ _ _ _ _ (fun k hk => ?_)
            rw [ext_pre_list', hR]
            simp [List.getD, hk]
          have hxr : (R.extract 64 R.size).data.toList = M.drop (64 * (j + 1)) := by
            rw [ext_suf', hR, List.drop_drop]; congr 1
          have hsz' : (R.extract 64 R.size).size = R.size - 64 := by simp [ByteArray.size_extract]
          generalize hS : blocksW M j = S at *
          have hlw : w.heap.size < wr.drew.heap.size := (Array.getElem?_eq_some_iff.1 hH).1
          have c0 : wr.cell? ⟨w.heap.size, 0, none⟩ = some (.int .u32 (S.a.toNat : Int)) := cell_of_heap hH 0
          have c1 : wr.cell? ⟨w.heap.size, 1, none⟩ = some (.int .u32 (S.b.toNat : Int)) := cell_of_heap hH 1
          have c2 : wr.cell? ⟨w.heap.size, 2, none⟩ = some (.int .u32 (S.c.toNat : Int)) := cell_of_heap hH 2
          have c3 : wr.cell? ⟨w.heap.size, 3, none⟩ = some (.int .u32 (S.d.toNat : Int)) := cell_of_heap hH 3
          have c4 : wr.cell? ⟨w.heap.size, 4, none⟩ = some (.int .u32 (S.e.toNat : Int)) := cell_of_heap hH 4
          have c5 : wr.cell? ⟨w.heap.size, 5, none⟩ = some (.int .u32 (S.f.toNat : Int)) := cell_of_heap hH 5
          have c6 : wr.cell? ⟨w.heap.size, 6, none⟩ = some (.int .u32 (S.g.toNat : Int)) := cell_of_heap hH 6
          have c7 : wr.cell? ⟨w.heap.size, 7, none⟩ = some (.int .u32 (S.h.toNat : Int)) := cell_of_heap hH 7
          have hri : RoundsIn wr.drew := (HR.out.below hbl).below (Below.refl _ _).drew
          have HRI := Lib.hid hri; have HX64 := Lib.hid hx64; have HBK := Lib.hid hbk; have HXR := Lib.hid hxr; have HSZ := Lib.hid hsz'; have HH := Lib.hid hH; have HRR := Lib.hid hR; have HRS := Lib.hid hRs; have HS := Lib.hid hS; have HLT := Lib.hid hlt; have HSL := Lib.hid hsl
          clear hri hx64 hbk hxr hsz' hH hR hRs hS hlt hge0 hsl
          go_wp2
          refine wp_region_quiet_tail 3 (by kernel_rfl) (by kernel_rfl) ?_
          simp only [List.take_succ_cons, List.take_zero, List.drop_succ_cons, List.drop_zero]
          repeat (go_big_quiet_step (fail))
          refine wpQuiet_nil ?_
          clear c0 c1 c2 c3 c4 c5 c6 c7
          have hHd : wr.drew.heap[w.heap.size]? = some (.cells (h0Cells S) 37) := HH.out
          go_wp2_with fail
          refine (stir_any S _ HX64.out _ HRI.out).mono ?_
          rintro e W1 ⟨rfl, hb1⟩
          have hH1 : W1.heap[w.heap.size]? = some (.cells (h0Cells S) 37) := (hb1.block w.heap.size hlw).trans hHd
          have hd1 : Below w.heap.size w wr.drew := hbl.drew
          have hb01 : Below w.heap.size w W1 := hd1.trans (hb1.mono hd1.size)
          rw [HBK.out]
          have HH1 := Lib.hid hH1; have HB01 := Lib.hid hb01; clear hH1 hb01 hb1 hHd
          have HONE := Lib.hid (h0_one (blocksW M (j + 1)))
          generalize hS1 : blocksW M (j + 1) = S1 at *
          have HS1 := Lib.hid hS1; clear hS1
          have HTH : Hid (W1.there w.heap.size 0 (h0Cells S1).size) := Lib.hid (by rw [h0_size]; exact there8 HH1.out)
          have HI8 : Hid ((Tryd.prog.info? 37).map (·.size) = some (h0Cells S1).size) := Lib.hid (by rw [h0_size]; exact HIE.out)
          dsimp only
          go_step
          refine wpList_store_mid rfl 37 (.tmp 3) (.tmp 28) rfl w.heap.size 0 (h0Cells S1) rfl rfl HTH.out HI8.out HONE.out ?_
          have hH2 := set8_heap (s' := S1) HH1.out
          have hb2 := below_setCells HB01.out (Nat.le_refl w.heap.size) (h0Cells S1).toList 0
          generalize W1.setCells w.heap.size 0 (h0Cells S1).toList = W2 at *
          have HH2 := Lib.hid hH2; clear hH2
          go_wp2
          refine ⟨⟨j + 1, R.extract 64 R.size, by have := HLT.out; have := H64.out; omega, rfl, HXR.out, by rw [HS1.out]; exact HH2.out, hb2⟩, ?_⟩
          show (R.extract 64 R.size).size < R.size
          rw [HSZ.out]; omega
        · have hje : j = M.length / 64 := by omega
          have hem : R.toList = [] := by
            rw [ByteArray.toList_eq, hR]
            exact List.drop_of_length_le (by omega)
          have hem2 : (!R.toList.isEmpty) = false := by rw [hem]; rfl
          generalize hS : blocksW M j = S at *
          have c0 : wr.cell? ⟨w.heap.size, 0, none⟩ = some (.int .u32 (S.a.toNat : Int)) := cell_of_heap hH 0
          have c1 : wr.cell? ⟨w.heap.size, 1, none⟩ = some (.int .u32 (S.b.toNat : Int)) := cell_of_heap hH 1
          have c2 : wr.cell? ⟨w.heap.size, 2, none⟩ = some (.int .u32 (S.c.toNat : Int)) := cell_of_heap hH 2
          have c3 : wr.cell? ⟨w.heap.size, 3, none⟩ = some (.int .u32 (S.d.toNat : Int)) := cell_of_heap hH 3
          have c4 : wr.cell? ⟨w.heap.size, 4, none⟩ = some (.int .u32 (S.e.toNat : Int)) := cell_of_heap hH 4
          have c5 : wr.cell? ⟨w.heap.size, 5, none⟩ = some (.int .u32 (S.f.toNat : Int)) := cell_of_heap hH 5
          have c6 : wr.cell? ⟨w.heap.size, 6, none⟩ = some (.int .u32 (S.g.toNat : Int)) := cell_of_heap hH 6
          have c7 : wr.cell? ⟨w.heap.size, 7, none⟩ = some (.int .u32 (S.h.toNat : Int)) := cell_of_heap hH 7
          have HJ := Lib.hid hje; have HS := Lib.hid hS; have HB := Lib.hid hbl; have HSL := Lib.hid hsl
          clear hje hH hR hRs hS hbl hsl
          go_wp2_with fail
          refine (printed_any S _).mono ?_
          rintro e W1 ⟨rfl, hb1⟩
          have hb2 : Below w.heap.size w W1 := HB.out.trans (hb1.mono HB.out.size)
          clear c0 c1 c2 c3 c4 c5 c6 c7 hb1
          dsimp only
          go_wp2
          go_ret
          exact ⟨ret_str (by rw [HFIN.out, ← HJ.out, HS.out]), hb2⟩
end Go.Proofs.YtdiljjoaihfloaaDoor
namespace Go.Proofs.YtdiljjoaihfloaaDoor
open Go.RowKit
/-- the lists are of one length, and alike up to k -/
def Alike (a b : List UInt8) (k : Nat) : Prop := a.length = b.length ∧ a.take k = b.take k
/-- what the loop holds: 0 just where they are alike so far -/
def Held (a b : List UInt8) (k : Nat) (U : Int) : Prop := 0 ≤ U ∧ U < 2 ^ 63 ∧ (U = 0 ↔ Alike a b k)

theorem held_start (a b : List UInt8) (ha : a.length < 2 ^ 63) (hb : b.length < 2 ^ 63) : Held a b 0 (bits .xor .i64 a.length b.length) := by
  rw [bits_xor_nat .i64 63 (by decide) wraps_i64 _ _ ha hb]
  refine ⟨Int.natCast_nonneg _, by exact_mod_cast Nat.xor_lt_two_pow ha hb, ?_⟩
  simp only [Alike, List.take_zero, and_true]
  rw [Int.natCast_eq_zero]
  exact xor_zero_iff _ _

theorem take_succ' (l : List UInt8) (k : Nat) (h : k < l.length) : l.take (k + 1) = l.take k ++ [l[k]] := List.take_succ_eq_append_getElem h

theorem held_in (a b : List UInt8) (k : Nat) (U : Int) (h : Held a b k U) (ha : k < a.length) (hb : k < b.length) :
    Held a b (k + 1) (bits .or .i64 U (wrap64 (bits .xor .u8 (a[k].toNat : Int) (b[k].toNat : Int)))) := by
  obtain ⟨h0, h1, h2⟩ := h
  obtain ⟨u, rfl⟩ := Int.eq_ofNat_of_zero_le h0
  have hu : u < 2 ^ 63 := by exact_mod_cast h1
  have x8 := a[k].toNat_lt
  have y8 := b[k].toNat_lt
  rw [u8_xor_nat _ _ x8 y8]
  have hx : a[k].toNat ^^^ b[k].toNat < 2 ^ 63 := Nat.lt_trans (Nat.xor_lt_two_pow (n := 8) x8 y8) (by decide)
  rw [IntWalk.wrap64_in _ ⟨by omega, by omega⟩]
  rw [(bits_nat .i64 63 (by decide) wraps_i64 u _ hu hx).2]
  refine ⟨Int.natCast_nonneg _, by exact_mod_cast Nat.or_lt_two_pow hu hx, ?_⟩
  rw [Int.natCast_eq_zero, Nat.or_eq_zero_iff, xor_zero_iff]
  rw [Int.natCast_eq_zero] at h2
  rw [h2]
  unfold Alike
  rw [take_succ' a k ha, take_succ' b k hb]
  constructor
  · rintro ⟨⟨hl, ht⟩, he⟩
    exact ⟨hl, by rw [ht, UInt8.toNat_inj.1 he]⟩
  · rintro ⟨hl, ht⟩
    have := List.append_inj ht (by simp; omega)
    exact ⟨⟨hl, this.1⟩, by simpa using congrArg (fun l => l.map UInt8.toNat) this.2⟩

theorem held_out (a b : List UInt8) (k : Nat) (U : Int) (h : Held a b k U) (ha : k < a.length) (hb : b.length ≤ k) :
    Held a b (k + 1) (bits .or .i64 U (wrap64 (bits .xor .u8 (a[k].toNat : Int) 0))) := by
  obtain ⟨h0, h1, h2⟩ := h
  obtain ⟨u, rfl⟩ := Int.eq_ofNat_of_zero_le h0
  have hu : u < 2 ^ 63 := by exact_mod_cast h1
  have x8 := a[k].toNat_lt
  have e0 : bits .xor .u8 (a[k].toNat : Int) 0 = ((a[k].toNat ^^^ 0 : Nat) : Int) := u8_xor_nat _ 0 x8 (by decide)
  rw [e0]
  have hx : a[k].toNat ^^^ 0 < 2 ^ 63 := Nat.lt_trans (Nat.xor_lt_two_pow (n := 8) x8 (by decide)) (by decide)
  rw [IntWalk.wrap64_in _ ⟨by omega, by omega⟩]
  rw [(bits_nat .i64 63 (by decide) wraps_i64 u _ hu hx).2]
  refine ⟨Int.natCast_nonneg _, by exact_mod_cast Nat.or_lt_two_pow hu hx, ?_⟩
  rw [Int.natCast_eq_zero, Nat.or_eq_zero_iff]
  rw [Int.natCast_eq_zero] at h2
  rw [h2]
  unfold Alike
  constructor
  · rintro ⟨⟨hl, _⟩, _⟩; omega
  · rintro ⟨hl, _⟩; omega

def eqB (a b : ByteArray) : Bool := decide (a.data.toList = b.data.toList)

theorem held_end (a b : ByteArray) (U : Int) (h : Held a.data.toList b.data.toList a.size U) : (U == 0) = eqB a b := by
  rw [Bool.eq_iff_iff]
  unfold eqB
  simp only [beq_iff_eq, decide_eq_true_iff]
  rw [h.2.2]
  unfold Alike
  have hs : a.data.toList.length = a.size := rfl
  constructor
  · rintro ⟨hl, ht⟩
    rw [List.take_of_length_le (by omega), List.take_of_length_le (by omega)] at ht
    exact ht
  · intro h; rw [h]; exact ⟨rfl, rfl⟩

set_option maxRecDepth 100000 in
theorem equal_any (a b : ByteArray) (ha : a.size ≤ maxLen) (hb : b.size ≤ maxLen) (w : World) :
    Calls Tryd.prog 14 #[.string a, .string b] w fun e w' => e = .returned (.bool (eqB a b)) ∧ w = w' := by
  unfold maxLen at ha hb
  have hstart := held_start a.data.toList b.data.toList (show a.size < 2 ^ 63 by omega) (show b.size < 2 ^ 63 by omega)
  have HS := Lib.hid hstart; clear hstart
  go_enter Tryd.func14, Tryd.ntmps14
  go_wp2
  go_loop [5, 15] (fun u i => ∃ (k : Nat) (U : Int), k ≤ a.size ∧ i = .int .i64 k ∧ u = .int .i64 U ∧ Held a.data.toList b.data.toList k U) (fun _ i => a.size - (intOf i).toNat)
  case atStart => exact ⟨0, _, Nat.zero_le _, rfl, rfl, HS.out⟩
  case round =>
    obtain ⟨k, U, hk, rfl, rfl, hh⟩ := hrel
    have HH := Lib.hid hh; clear hh
    by_cases hlt : k < a.size
    · by_cases hltb : k < b.size
      · go_wp2
        go_round
        case rel => exact ⟨k + 1, _, by omega, by go_num, rfl, held_in _ _ k U HH.out hlt hltb⟩
        case measure => simp [intOf]; omega
      · go_wp2
        go_round
        case rel => exact ⟨k + 1, _, by omega, by go_num, rfl, held_out _ _ k U HH.out hlt (Nat.le_of_not_lt hltb)⟩
        case measure => simp [intOf]; omega
    · go_wp2
      go_ret
      have hke : k = a.size := by omega
      subst hke
      exact ⟨ret_bool (held_end a b U HH.out), rfl⟩
end Go.Proofs.YtdiljjoaihfloaaDoor
namespace Go.Proofs.YtdiljjoaihfloaaDoor
open Go.RowKit
set_option maxRecDepth 100000 in
theorem quote_any (s : ByteArray) (hs : s.size ≤ 46912496117759) (w : World) :
    Calls Tryd.prog 22 #[.string s] w fun e w' => e = .returned (.string ⟨(quoteL s.data.toList).toArray⟩) ∧ Below w.heap.size w w' := by
  obtain ⟨i0, hi, hz0, hz1, hz2⟩ := info_parts Tryd.infoByte
  go_enter Tryd.func22, Tryd.ntmps22
  go_wp2_with (at_make; refine wpList_make_own _ rfl _ _ 26 rfl w.heap.size 5 i0 _ 1 Tryd.underlying26 hi hz0 hz1 _ _ _ s.size rfl rfl (by omega) (by rw [hz2]; omega) (by unfold maxLen; omega) (Nat.le_refl _) ?_)
  intro w0 hown0 hg0
  have hb0 : Below w.heap.size w w0 := (Below.refl _ _).grown hg0 (Nat.le_refl _) (by simp)
  go_wp2
  go_loopw [3, 11] (fun v i wr => ∃ k : Nat, k ≤ s.size ∧ i = .int .i64 k ∧ Buf wr w.heap.size v (quoteL (s.data.toList.take k)) ∧ Below w.heap.size w wr) (fun _ i _ => s.size - (intOf i).toNat)
  case atStart => exact ⟨0, Nat.zero_le _, rfl, hown0, hb0⟩
  case round =>
    obtain ⟨k, hk, rfl, hown, hb⟩ := hrel
    have hql := quoteL_le (s.data.toList.take k)
    have htl : (s.data.toList.take k).length ≤ k := List.length_take_le _ _
    have hbs := hb.size
    by_cases hlt : k < s.size
    · have hsn := take_snoc s k hlt
      by_cases hp : plainB s[k] = true
      · have hnext : quoteL (s.data.toList.take (k + 1)) = quoteL (s.data.toList.take k) ++ [s[k]] := by rw [hsn, quoteL_snoc]; simp [quote1, hp]
        have HN := Lib.hid hnext; clear hnext hsn
        go_wp2_with (first
          | (go_at_call 28; refine (plain_any _ _).mono ?_; rintro e w' ⟨rfl, rfl⟩)
          | (at_builtin; refine wpList_append_own _ rfl (.tmp 19) (.tmp 21) 26 rfl w.heap.size 5 i0 _ 1 1 Tryd.underlying26 hi hz0 hz1 hz2 rfl (by decide) _ _ _ rfl (World.ownsRow.alloc hown _) ⟨_, 0, none⟩ 1 1 [.int .u8 s[k].toNat] rfl rfl (new_cells _ #[_] _) (one_cell _) (by unfold maxLen; omega) (by omega) (by simp; omega) ?_))
        intro v' w1 hown' hg' _
        have hb1 : Below w.heap.size w w1 := (hb.alloc hbs _).grown hg' (by simp; omega) (fun j hj => (hown.lt j hj).1)
        go_wp2
        go_roundw
        case rel => exact ⟨k + 1, by omega, by go_num, Buf.cut hown' (by rw [HN.out]; simp) (by rw [HN.out, cells_app]; rfl), hb1⟩
        case measure => simp [intOf]; omega
      · have hp' : plainB s[k] = false := by simpa using hp
        have hnext : quoteL (s.data.toList.take (k + 1)) = quoteL (s.data.toList.take k) ++ [37, hexU (s[k].toNat / 16), hexU (s[k].toNat % 16)] := by rw [hsn, quoteL_snoc]; simp [quote1, hp']
        have HN := Lib.hid hnext; clear hnext hsn hp
        have hu := s[k].toNat_lt
        go_wp2_with (first
          | (go_at_call 28; refine (plain_any _ _).mono ?_; rintro e w' ⟨rfl, rfl⟩))
        have h15 : bits .and .u8 (s[k].toNat : Int) 15 = (s[k].toNat : Int) % 16 := u8_and15 _ (by omega) (by omega)
        have h15a : 0 ≤ (s[k].toNat : Int) % 16 := by omega
        have h15b : (s[k].toNat : Int) % 16 < 16 := by omega
        go_region_held3 (fun _ => True) (trivial) ((refine step_append_own rfl (.tmp 23) (.tmp 30) 26 rfl w.heap.size 5 i0 _ 1 1 Tryd.underlying26 hi hz0 hz1 hz2 rfl (by decide) _ _ _ rfl (World.ownsRow.alloc (World.ownsRow.drew hown) _) ⟨_, 0, none⟩ 3 3 [.int .u8 37, .int .u8 _, .int .u8 _] rfl rfl (new_cells _ #[_, _, _] _) (three_cells _ _ _) (by unfold maxLen; omega) (by omega) (by simp; omega) ?_; intro v' w1 hown' hg' hn'))
        all_goals
          have hb1 : Below w.heap.size w w1 := ((hb.drew).alloc hbs _).grown hg' (by simp; omega) (fun j hj => (hown.lt j hj).1)
          go_wp2
          go_roundw
          case rel => exact ⟨k + 1, by omega, by go_num, Buf.cut hown' (by rw [HN.out]; simp) (by rw [HN.out, cells_app]; exact congrArg _ (hex_cells s[k] _ _ rfl rfl _ _)), hb1⟩
          case measure => simp [intOf]; omega
    · have hke : k = s.size := by omega
      subst hke
      have hcv := hown.text
      go_wp2
      go_ret
      exact ⟨ret_str (by rw [take_all]), hb⟩
end Go.Proofs.YtdiljjoaihfloaaDoor
namespace Go.Proofs.YtdiljjoaihfloaaDoor
open Go.RowKit
set_option linter.unusedVariables false
set_option linter.unusedSimpArgs false

theorem quoteL_cons' (c : UInt8) (l : List UInt8) : quoteL (c :: l) = quote1 c ++ quoteL l := by simp [quoteL]
theorem quoteL_ge (l : List UInt8) : l.length ≤ (quoteL l).length := by
  induction l with
  | nil => simp [quoteL]
  | cons c l ih =>
    rw [quoteL_cons', List.length_append, List.length_cons]
    have : 1 ≤ (quote1 c).length := by unfold quote1; split <;> simp
    omega
theorem quote_plain (l : List UInt8) : quoteL l = l ↔ l.all plainB = true := by
  induction l with
  | nil => simp [quoteL]
  | cons c l ih =>
    rw [quoteL_cons', List.all_cons, Bool.and_eq_true, ← ih]
    by_cases h : plainB c = true
    · simp [quote1, h]
    · have h' : plainB c = false := by simpa using h
      constructor
      · intro he
        have h1 := congrArg List.length he
        rw [List.length_append, List.length_cons] at h1
        have h2 := quoteL_ge l
        have h3 : (quote1 c).length = 3 := by simp [quote1, h']
        omega
      · intro he; exact absurd he.1 h
theorem quote_beq (v : List UInt8) (V Q : ByteArray) (hV : V.data.toList = v) (hQ : Q.data.toList = quoteL v) : (Q.toList == V.toList) = v.all plainB := by
  rw [ByteArray.toList_eq, ByteArray.toList_eq, Bool.eq_iff_iff, beq_iff_eq]
  show Q.data.toList = V.data.toList ↔ _
  rw [hV, hQ]
  exact quote_plain v
set_option maxRecDepth 100000 in
set_option maxHeartbeats 4000000 in
theorem chalSays : ChalSays := fun v hv w hr => by
  have hs := sum_any ⟨v.toArray⟩ (by show v.toArray.size ≤ _; simp; omega) w hr
  have he := fun W => encode_any ⟨(sumL v).toArray⟩ (by show (sumL v).toArray.size ≤ _; simp [sumL_len]) W
  have HS := Lib.hid hs; have HE := Lib.hid he
  clear hs he hr
  unfold chalL
  go_enter Tryd.func10, Tryd.ntmps10
  go_wp2_with fail
  refine HS.out.mono ?_
  rintro e w1 ⟨rfl, hb1⟩
  have B1 := Lib.hid hb1; clear hb1
  dsimp only
  go_wp2_with fail
  refine (HE.out _).mono ?_
  rintro e w2 ⟨rfl, hb2⟩
  have B2 := Lib.hid (B1.out.chain hb2); clear hb2
  dsimp only
  go_wp2
  go_ret
  exact ⟨rfl, B2.out⟩
set_option maxRecDepth 100000 in
set_option maxHeartbeats 4000000 in
theorem goodSays : GoodSays := fun c hc w hr => by
  have hd := decode_says ⟨c.toArray⟩ (by show c.toArray.size ≤ _; simp; omega) w
  have HD := Lib.hid hd
  clear hd hr
  unfold goodB
  cases hn : dec c with
  | none =>
    go_enter Tryd.func8, Tryd.ntmps8
    go_wp2_with fail
    refine HD.out.mono ?_
    rintro e w1 ⟨h | ⟨h, rfl⟩, hb⟩
    · obtain ⟨o, ho, rfl⟩ := h
      have : dec c = some o := ho
      rw [hn] at this; cases this
    · have HB := Lib.hid hb; clear hb hn h
      dsimp only
      go_wp2
      go_ret
      exact ⟨rfl, HB.out⟩
  | some o =>
    obtain ⟨O, hO⟩ : ∃ O : ByteArray, (⟨o.toArray⟩ : ByteArray) = O := ⟨_, rfl⟩
    have hOs : O.size = o.length := by rw [← hO]; show o.toArray.size = _; simp
    have HOs := Lib.hid hOs; have HO := Lib.hid hO
    go_enter Tryd.func8, Tryd.ntmps8
    go_wp2_with fail
    refine HD.out.mono ?_
    rintro e w1 ⟨h | ⟨h, rfl⟩, hb⟩
    · obtain ⟨o', ho', rfl⟩ := h
      have ho2 : dec c = some o' := ho'
      rw [hn] at ho2
      cases ho2
      rw [HO.out]
      have HB := Lib.hid hb
      clear hb hn hO hOs ho'
      dsimp only
      go_wp2
      go_ret
      exact ⟨ret_bool (by rw [← HOs.out, Bool.eq_iff_iff]; simp; omega), HB.out⟩
    · have h2 : dec c = none := h
      rw [hn] at h2; cases h2
set_option maxRecDepth 100000 in
set_option maxHeartbeats 4000000 in
theorem allowed_any (v : List UInt8) (hv : v.length ≤ 10000) (w : World) :
    Calls Tryd.prog 13 #[.string ⟨v.toArray⟩] w fun e w' => e = .returned (.bool (v.all plainB && decide (43 ≤ v.length) && decide (v.length ≤ 128))) ∧ Below w.heap.size w w' := by
  obtain ⟨V, hV⟩ : ∃ O : ByteArray, (⟨v.toArray⟩ : ByteArray) = O := ⟨_, rfl⟩
  have hVl : V.data.toList = v := by rw [← hV]
  have hVs : V.size = v.length := by rw [← hVl]; rfl
  have hq := quote_any V (by omega) w
  rw [hVl] at hq
  obtain ⟨Q, hQ⟩ : ∃ O : ByteArray, (⟨(quoteL v).toArray⟩ : ByteArray) = O := ⟨_, rfl⟩
  have hqe := quote_beq v V Q hVl (by rw [← hQ])
  rw [hQ] at hq
  rw [hV, ← hVs]
  have HQ := Lib.hid hq; have HE := Lib.hid hqe
  clear hq hqe hQ hV hVl hVs
  by_cases h43 : 43 ≤ V.size
  · have d1 : decide ((V.size : Int) < 43) = false := by simp; omega
    by_cases h128 : V.size ≤ 128
    · have d2 : decide ((128 : Int) < V.size) = false := by simp; omega
      go_enter Tryd.func13, Tryd.ntmps13
      go_wp2_with fail
      refine HQ.out.mono ?_
      rintro e w1 ⟨rfl, hb⟩
      have HB := Lib.hid hb; clear hb
      dsimp only
      go_wp2
      go_ret
      exact ⟨ret_bool (by rw [HE.out]; simp [h43, h128]), HB.out⟩
    · have d2 : decide ((128 : Int) < V.size) = true := by simp; omega
      go_enter Tryd.func13, Tryd.ntmps13
      go_wp2
      go_ret
      exact ⟨ret_bool (by simp [h128]), Below.refl _ _⟩
  · have d1 : decide ((V.size : Int) < 43) = true := by simp; omega
    go_enter Tryd.func13, Tryd.ntmps13
    go_wp2
    go_ret
    exact ⟨ret_bool (by rw [decide_eq_false h43]; simp), Below.refl _ _⟩
set_option maxRecDepth 100000 in
set_option maxHeartbeats 4000000 in
theorem rightSays : RightSays := fun c v hc hv w hr => by
  have ha := allowed_any v hv w
  have hch := fun W (hb : Below w.heap.size w W) => chalSays v hv W (hr.below hb)
  have hcl : (chalL v).length ≤ 43 := by unfold chalL; rw [enc_len, sumL_len]; decide
  have heq := fun W => equal_any ⟨(chalL v).toArray⟩ ⟨c.toArray⟩ (by show (chalL v).toArray.size ≤ _; simp [maxLen]; omega) (by show c.toArray.size ≤ _; simp [maxLen]; omega) W
  have heb : eqB ⟨(chalL v).toArray⟩ ⟨c.toArray⟩ = decide (chalL v = c) := by unfold eqB; simp
  rw [heb] at heq
  have hrb : rightB c v = ((v.all plainB && decide (43 ≤ v.length) && decide (v.length ≤ 128)) && decide (chalL v = c)) := rfl
  rw [hrb]
  obtain ⟨CH, hCH⟩ : ∃ D : ByteArray, (⟨(chalL v).toArray⟩ : ByteArray) = D := ⟨_, rfl⟩
  rw [hCH] at hch heq
  obtain ⟨A, hA⟩ : ∃ b, (v.all plainB && decide (43 ≤ v.length) && decide (v.length ≤ 128)) = b := ⟨_, rfl⟩
  rw [hA] at ha ⊢
  have HA := Lib.hid ha; have HC := Lib.hid hch; have HE := Lib.hid heq
  clear ha hch heq hcl heb hrb hCH hA hr
  cases A with
  | true =>
    go_enter Tryd.func6, Tryd.ntmps6
    go_wp2_with fail
    refine HA.out.mono ?_
    rintro e w1 ⟨rfl, hb1⟩
    have B1 := Lib.hid hb1; clear hb1
    dsimp only
    go_wp2_with fail
    refine (HC.out _ B1.out).mono ?_
    rintro e w2 ⟨rfl, hb2⟩
    have B2 := Lib.hid (B1.out.chain hb2); clear hb2
    dsimp only
    go_wp2_with fail
    refine (HE.out _).mono ?_
    rintro e w3 ⟨rfl, rfl⟩
    dsimp only
    go_wp2
    go_ret
    exact ⟨ret_bool (by simp), B2.out⟩
  | false =>
    go_enter Tryd.func6, Tryd.ntmps6
    go_wp2_with fail
    refine HA.out.mono ?_
    rintro e w1 ⟨rfl, hb1⟩
    have B1 := Lib.hid hb1; clear hb1
    dsimp only
    go_wp2
    go_ret
    exact ⟨ret_bool (by simp), B1.out⟩
end Go.Proofs.YtdiljjoaihfloaaDoor
namespace Go.Proofs.YtdiljjoaihfloaaDoor
open Go.ChangeShapes Go.WideShapes Go.ChangeAt Go.RowKit

/-- what the rows list -/
def listed : List (String × DataW Unit) := [("exequatur/hash.rounds", Rows.laid_exequatur_hash_rounds)]
def kInts : List Int := kL.map fun x => (x.toNat : Int)
theorem listed_eq : listed = [("exequatur/hash.rounds", Lib.tabData .u32 kInts)] := by kernel_rfl
theorem gRounds : Tryd.prog.globalNamed "exequatur/hash.rounds" = some 0 := by kernel_rfl
theorem tRounds : (Tryd.prog.globals[0]?).map (·.type) = some 36 := by kernel_rfl
theorem cellsWord : Tryd.prog.cellsOf 35 = 1 := by kernel_rfl
theorem cellsRounds : Tryd.prog.cellsOf 36 = 64 := by kernel_rfl
theorem kInts_len : kInts.length = 64 := by kernel_rfl
theorem roundsIn_of_laid {W : World} (h : laidMetH Tryd.prog listed W) : RoundsIn W := by
  rw [MakeChecks.laidMetH_plain _ _ _ (by kernel_rfl), listed_eq] at h
  have hT := Lib.tabIs_of_head gRounds tRounds Tryd.underlying36 Tryd.underlying35 cellsWord cellsRounds h
  have hc := fun i (hi : i < 64) => hT.cell gRounds i (by rw [kInts_len]; exact hi)
  refine ⟨fun j v hv => ?_, ?_⟩
  · rw [Nat.zero_add]
    have hj : j < 64 := by
      have := (List.getElem?_eq_some_iff.1 hv).1
      rw [Array.length_toList, kCells_size] at this; exact this
    rw [hc j hj, ← hv]
    have h1 := kCells_at j hj
    rw [← Array.getElem?_toList] at h1
    rw [h1]
    have hl : j < kL.length := hj
    simp [kInts, kAt, List.getD, hl]
  · have h0 := hc 0 (by decide)
    refine Nat.lt_of_not_le fun hle => ?_
    have : W.cell? ⟨0, 0, none⟩ = none := by
      simp [World.cell?, Array.getElem?_eq_none hle]
    rw [this] at h0; cases h0
theorem door_met (os : Os) (args : Array Value) : laidMetH Tryd.prog listed ((World.doorLaid Tryd.prog 400 os).forCall (fun _ _ => 0) ⟨#[], args, []⟩).memory :=
  laidMetH_of_parts3 (fuel := 8) (laidMet_of_run' 8 (by kernel_rfl) (by kernel_rfl)) (by kernel_rfl) (by kernel_rfl)
end Go.Proofs.YtdiljjoaihfloaaDoor
