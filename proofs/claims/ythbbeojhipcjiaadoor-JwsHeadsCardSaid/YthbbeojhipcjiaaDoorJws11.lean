/- Texts merged by program, in build order: HashSum, HashMac, Encode, JwsHead, Sum6. -/
import Derived.Test.YthbbeojhipcjiaaDoorJws03
import Derived.Test.YthbbeojhipcjiaaDoorJws04
import Derived.Test.YthbbeojhipcjiaaDoorJws08
import Derived.Test.YthbbeojhipcjiaaDoorJws09
import Derived.Test.YthbbeojhipcjiaaDoorJws10
import Derived.Test.YthbbeojhipcjiaaDoorJws02
namespace Go.Proofs.YthbbeojhipcjiaaDoor
open Go.RowKit

theorem ext_pre_list' (s : ByteArray) (k : Nat) : (s.extract 0 k).data.toList = s.data.toList.take k := by
  simp [ByteArray.data_extract, List.extract]
theorem ext_suf' (s : ByteArray) (k : Nat) : (s.extract k s.size).data.toList = s.data.toList.drop k := by
  have h : s.size = s.data.size := rfl
  rw [ByteArray.data_extract, Array.toList_extract, h]
  simp [List.extract, List.take_of_length_le]
/-! ## a schedule looks at its own block alone -/
theorem wordL_sub (l l' : List UInt8) (p p' i : Nat) (h : ∀ j, j < 64 → l.getD (p + j) 0 = l'.getD (p' + j) 0) (hi : i < 16) : wordL l (p + 4 * i) = wordL l' (p' + 4 * i) := by
  unfold wordL
  rw [show p + 4 * i + 1 = p + (4 * i + 1) by omega, show p + 4 * i + 2 = p + (4 * i + 2) by omega, show p + 4 * i + 3 = p + (4 * i + 3) by omega,
    show p' + 4 * i + 1 = p' + (4 * i + 1) by omega, show p' + 4 * i + 2 = p' + (4 * i + 2) by omega, show p' + 4 * i + 3 = p' + (4 * i + 3) by omega,
    h _ (by omega), h _ (by omega), h _ (by omega), h _ (by omega)]
theorem schedL_sub (l l' : List UInt8) (p p' : Nat) (h : ∀ j, j < 64 → l.getD (p + j) 0 = l'.getD (p' + j) 0) : ∀ n, schedL l p n = schedL l' p' n
  | 0 => rfl
  | n + 1 => by
    rw [schedL, schedL, schedL_sub l l' p p' h n]
    by_cases hn : n < 16
    · rw [if_pos hn, if_pos hn, wordL_sub l l' p p' n h hn]
    · rw [if_neg hn, if_neg hn]
theorem roundsW_sub (l l' : List UInt8) (p p' : Nat) (s : S8) (h : ∀ j, j < 64 → l.getD (p + j) 0 = l'.getD (p' + j) 0) : ∀ n, roundsW l p s n = roundsW l' p' s n
  | 0 => rfl
  | n + 1 => by
    rw [roundsW, roundsW, roundsW_sub l l' p p' s h n]
    unfold schedW
    rw [schedL_sub l l' p p' h]
theorem blockW_sub (l l' : List UInt8) (p p' : Nat) (s : S8) (h : ∀ j, j < 64 → l.getD (p + j) 0 = l'.getD (p' + j) 0) : blockW l p s = blockW l' p' s := by
  unfold blockW; rw [roundsW_sub l l' p p' s h]
/-- all blocks of a text, from a state on -/
def eatW (s : S8) (l : List UInt8) : Nat → S8
  | 0 => s
  | j + 1 => blockW l (64 * j) (eatW s l j)
theorem eatW_blocks (l : List UInt8) (n : Nat) : eatW h0 l n = blocksW l n := by
  induction n with
  | zero => rfl
  | succ n ih => rw [eatW, blocksW, ih]
theorem blocksW_pre (l l' : List UInt8) (n : Nat) (h : ∀ j, j < 64 * n → l.getD j 0 = l'.getD j 0) : blocksW l n = blocksW l' n := by
  induction n with
  | zero => rfl
  | succ n ih => rw [blocksW, blocksW, ih (fun j hj => h j (by omega)), blockW_sub l l' (64 * n) (64 * n) _ (fun j hj => h _ (by omega))]
theorem padL_split (l : List UInt8) (m : Nat) (hm : 64 * m ≤ l.length) (hr : l.length < 64 * m + 64) : padL l = l.take (64 * m) ++ endL (l.drop (64 * m)) l.length := by
  have e : zerosN l.length = zerosN (l.drop (64 * m)).length := by
    rw [List.length_drop]; unfold zerosN
    have : l.length % 64 = (l.length - 64 * m) % 64 := by omega
    rw [this]
  unfold padL endL
  rw [← e]
  simp only [← List.append_assoc, List.take_append_drop]
theorem getD_take_app (l e : List UInt8) (m k : Nat) (hk : k < m) (hm : m ≤ l.length) : l.getD k 0 = (l.take m ++ e).getD k 0 := by
  have h1 : k < (l.take m).length := by rw [List.length_take]; omega
  rw [List.getD_eq_getElem?_getD, List.getD_eq_getElem?_getD, List.getElem?_append_left h1, List.getElem?_take_of_lt hk]
def vstr : Value → Nat
  | .string s => s.size
  | _ => 0
theorem setAll8 (s s' : S8) : setAll (h0Cells s) 0 (h0Cells s').toList = h0Cells s' := by kernel_rfl
theorem set8_heap {w : World} {b : Nat} {s s' : S8} {t : TypeId} (h : w.heap[b]? = some (.cells (h0Cells s) t)) : (w.setCells b 0 (h0Cells s').toList).heap[b]? = some (.cells (h0Cells s') t) := by
  have := setCells_heap (h0Cells s').toList 0 w _ h
  rw [setAll8] at this; exact this
theorem there8 {w : World} {b : Nat} {s : S8} {t : TypeId} (h : w.heap[b]? = some (.cells (h0Cells s) t)) : w.there b 0 8 := fun j hj => by
  rw [Nat.zero_add]
  refine ⟨?_, frozen_of_heap h⟩
  rw [cell_of_heap h, eightC_s, eightC_at _ _ hj]; rfl
theorem h0_size (s : S8) : (h0Cells s).size = 8 := rfl
theorem h0_one (s : S8) : (h0Cells s).all (·.oneCell') = true := i8_one _ _ _ _ _ _ _ _
set_option maxRecDepth 100000 in
set_option maxHeartbeats 1000000 in
theorem sum_any (s : ByteArray) (hs : s.size ≤ 1048576) (w : World) (hr : RoundsIn w) :
    Calls Tryd.prog 45 #[.string s] w fun e w' => e = .returned (.string ⟨(sumL s.data.toList).toArray⟩) ∧ Below w.heap.size w w' := by
  have HR := Lib.hid hr; have HIE := Lib.hid info_eight; clear hr
  have hsl : s.data.toList.length = s.size := rfl
  go_enter Tryd.func45, Tryd.ntmps45
  go_wp2
  go_loopw [4] (fun v W => ∃ (j : Nat) (R : ByteArray), 64 * j ≤ s.size ∧ v = .string R ∧ R.data.toList = s.data.toList.drop (64 * j) ∧ W.heap[w.heap.size]? = some (.cells (h0Cells (blocksW s.data.toList j)) 87) ∧ Below w.heap.size w W) (fun v _ => vstr v)
  case atStart => exact ⟨0, s, by omega, rfl, rfl, heap_alloc_last w _, (Below.refl _ _).alloc (Nat.le_refl _) _⟩
  case round =>
    obtain ⟨j, R, hj, rfl, hR, hH, hbl⟩ := hrel
    have hRs : R.size = s.size - 64 * j := by
      have : R.data.toList.length = R.size := rfl
      rw [← this, hR, List.length_drop, hsl]
    by_cases hlt : 64 ≤ R.size
    · have hge : (64 : Int) ≤ (R.size : Int) := by omega
      have hd : decide ((64 : Int) ≤ (R.size : Int)) = true := by simp; omega
      have hx64 : (R.extract 0 64).size = 64 := by simp [ByteArray.size_extract]; omega
      have hbk : blockW (R.extract 0 64).data.toList 0 (blocksW s.data.toList j) = blocksW s.data.toList (j + 1) := by
        rw [blocksW]
        refine blockW_sub _ _ _ _ _ (fun k hk => ?_)
        rw [ext_pre_list', hR]
        simp [List.getD, hk]
      have hxr : (R.extract 64 R.size).data.toList = s.data.toList.drop (64 * (j + 1)) := by
        rw [ext_suf', hR, List.drop_drop]; congr 1
      have hsz' : (R.extract 64 R.size).size = R.size - 64 := by simp [ByteArray.size_extract]
      generalize hS : blocksW s.data.toList j = S at *
      have hlw : w.heap.size < wr.drew.heap.size := (Array.getElem?_eq_some_iff.1 hH).1
      have c0 : wr.cell? ⟨w.heap.size, 0, none⟩ = some (.int .u32 (S.a.toNat : Int)) := cell_of_heap hH 0
      have c1 : wr.cell? ⟨w.heap.size, 1, none⟩ = some (.int .u32 (S.b.toNat : Int)) := cell_of_heap hH 1
      have c2 : wr.cell? ⟨w.heap.size, 2, none⟩ = some (.int .u32 (S.c.toNat : Int)) := cell_of_heap hH 2
      have c3 : wr.cell? ⟨w.heap.size, 3, none⟩ = some (.int .u32 (S.d.toNat : Int)) := cell_of_heap hH 3
      have c4 : wr.cell? ⟨w.heap.size, 4, none⟩ = some (.int .u32 (S.e.toNat : Int)) := cell_of_heap hH 4
      have c5 : wr.cell? ⟨w.heap.size, 5, none⟩ = some (.int .u32 (S.f.toNat : Int)) := cell_of_heap hH 5
      have c6 : wr.cell? ⟨w.heap.size, 6, none⟩ = some (.int .u32 (S.g.toNat : Int)) := cell_of_heap hH 6
      have c7 : wr.cell? ⟨w.heap.size, 7, none⟩ = some (.int .u32 (S.h.toNat : Int)) := cell_of_heap hH 7
      have hri : RoundsIn wr.drew := (HR.out.below hbl).below (Below.refl _ _).drew
      have HRI := Lib.hid hri; have HX64 := Lib.hid hx64; have HBK := Lib.hid hbk; have HXR := Lib.hid hxr; have HSZ := Lib.hid hsz'; have HH := Lib.hid hH; have HRR := Lib.hid hR; have HRS := Lib.hid hRs; have HSL := Lib.hid hsl; have HS := Lib.hid hS
      clear hri hx64 hbk hxr hsz' hH hR hRs hsl hS
      go_wp2
      refine wp_region_quiet_tail 3 (by kernel_rfl) (by kernel_rfl) ?_
      simp only [List.take_succ_cons, List.take_zero, List.drop_succ_cons, List.drop_zero]
      repeat (go_big_quiet_step (fail))
      refine wpQuiet_nil ?_
      clear c0 c1 c2 c3 c4 c5 c6 c7
      have hHd : wr.drew.heap[w.heap.size]? = some (.cells (h0Cells S) 87) := HH.out
      go_wp2_with fail
      refine (stir_any S _ HX64.out _ HRI.out).mono ?_
      rintro e W1 ⟨rfl, hb1⟩
      have hH1 : W1.heap[w.heap.size]? = some (.cells (h0Cells S) 87) := (hb1.block w.heap.size hlw).trans hHd
      have hd1 : Below w.heap.size w wr.drew := hbl.drew
      have hb01 : Below w.heap.size w W1 := hd1.trans (hb1.mono hd1.size)
      rw [HBK.out]
      have HH1 := Lib.hid hH1; have HB01 := Lib.hid hb01; clear hH1 hb01 hb1
      have HONE := Lib.hid (h0_one (blocksW s.data.toList (j + 1)))
      generalize hS1 : blocksW s.data.toList (j + 1) = S1 at *
      have HS1 := Lib.hid hS1; clear hS1
      have HTH : Hid (W1.there w.heap.size 0 (h0Cells S1).size) := Lib.hid (by rw [h0_size]; exact there8 HH1.out)
      have HI8 : Hid ((Tryd.prog.info? 87).map (·.size) = some (h0Cells S1).size) := Lib.hid (by rw [h0_size]; exact HIE.out)
      dsimp only
      go_step
      refine wpList_store_mid rfl 87 (.tmp 3) (.tmp 14) rfl w.heap.size 0 (h0Cells S1) rfl rfl HTH.out HI8.out HONE.out ?_
      have hH2 := set8_heap (s' := S1) HH1.out
      have hb2 := below_setCells HB01.out (Nat.le_refl w.heap.size) (h0Cells S1).toList 0
      generalize W1.setCells w.heap.size 0 (h0Cells S1).toList = W2 at *
      have HH2 := Lib.hid hH2; clear hH2
      go_wp2
      refine ⟨⟨j + 1, R.extract 64 R.size, by have := HRS.out; omega, rfl, HXR.out, by rw [HS1.out]; exact HH2.out, hb2⟩, ?_⟩
      show (R.extract 64 R.size).size < R.size
      rw [HSZ.out]; omega
    · have hge : decide ((64 : Int) ≤ (R.size : Int)) = false := by simp; omega
      have hsp := padL_split s.data.toList j (by rw [hsl]; exact hj) (by rw [hsl]; omega)
      have hpl := padL_len s.data.toList
      rw [← hR, hsl] at hsp
      have htl : (s.data.toList.take (64 * j)).length = 64 * j := by rw [List.length_take, hsl]; omega
      have hd0 : endL R.data.toList s.size = (padL s.data.toList).drop (64 * j) := by
        rw [hsp, List.drop_append_of_le_length (by omega), List.drop_of_length_le (by omega), List.nil_append]
      have hb0 : blocksW s.data.toList j = blocksW (padL s.data.toList) j := blocksW_pre _ _ j (fun k hk => by
        rw [hsp]; exact getD_take_app _ _ _ _ hk (by rw [hsl]; exact hj))
      have hlen : (padL s.data.toList).length = s.size + 1 + zerosN s.size + 8 := by rw [hpl.1, hsl]
      have hle : 64 * j ≤ (padL s.data.toList).length := by omega
      have h64 := hpl.2
      have hfin : sumL s.data.toList = outL (blocksW (padL s.data.toList) ((padL s.data.toList).length / 64)) := rfl
      rw [hb0] at hH
      generalize padL s.data.toList = M at *
      have hmax : M.length ≤ 1048800 := by rw [hlen]; unfold zerosN; omega
      have hlw : w.heap.size < wr.heap.size := (Array.getElem?_eq_some_iff.1 hH).1
      have HH := Lib.hid hH; have HD0 := Lib.hid hd0; have HFIN := Lib.hid hfin; have H64 := Lib.hid h64
      clear hH hd0 hfin h64 hsp hpl htl hb0 hlen hR hRs
      go_wp2_with fail
      refine (ending_any R s.size (by omega) (by omega) _).mono ?_
      rintro e W0 ⟨rfl, hbE⟩
      have hH0 : W0.heap[w.heap.size]? = some (.cells (h0Cells (blocksW M j)) 87) := (hbE.block _ hlw).trans HH.out
      have hb0 : Below w.heap.size w W0 := hbl.trans (hbE.mono hbl.size)
      rw [HD0.out]
      have HH0 := Lib.hid hH0; clear hH0 hbE HH
      dsimp only
      go_wp2
      go_loopw [5] (fun v W => ∃ (j : Nat) (R : ByteArray), 64 * j ≤ M.length ∧ v = .string R ∧ R.data.toList = M.drop (64 * j) ∧ W.heap[w.heap.size]? = some (.cells (h0Cells (blocksW M j)) 87) ∧ Below w.heap.size w W) (fun v _ => vstr v)
      case atStart => exact ⟨j, ⟨(M.drop (64 * j)).toArray⟩, hle, rfl, rfl, HH0.out, hb0⟩
      case round =>
        clear hb0 hbl hge hlw hlt hle
        obtain ⟨j, R, hj, rfl, hR, hH, hbl⟩ := hrel
        have hRs : R.size = M.length - 64 * j := by
          have : R.data.toList.length = R.size := rfl
          rw [← this, hR, List.length_drop]
        by_cases hlt : 64 * j < M.length
        · have hge0 : 64 ≤ R.size := by have := H64.out; omega
          have hge : (64 : Int) ≤ (R.size : Int) := by omega
          have hne : (!R.toList.isEmpty) = true := by
            rw [ByteArray.toList_eq]
            have : R.data.toList.length = R.size := rfl
            cases h : R.data.toList with
            | nil => rw [h] at this; simp at this; omega
            | cons _ _ => rfl
          have hx64 : (R.extract 0 64).size = 64 := by simp [ByteArray.size_extract]; omega
          have hbk : blockW (R.extract 0 64).data.toList 0 (blocksW M j) = blocksW M (j + 1) := by
            rw [blocksW]
            refine blockW_sub _ _ _ _ _ (fun k hk => ?_)
            rw [ext_pre_list', hR]
            simp [List.getD, hk]
          have hxr : (R.extract 64 R.size).data.toList = M.drop (64 * (j + 1)) := by
            rw [ext_suf', hR, List.drop_drop]; congr 1
          have hsz' : (R.extract 64 R.size).size = R.size - 64 := by simp [ByteArray.size_extract]
          generalize hS : blocksW M j = S at *
          have hlw : w.heap.size < wr.drew.heap.size := (Array.getElem?_eq_some_iff.1 hH).1
          have c0 : wr.cell? ⟨w.heap.size, 0, none⟩ = some (.int .u32 (S.a.toNat : Int)) := cell_of_heap hH 0
          have c1 : wr.cell? ⟨w.heap.size, 1, none⟩ = some (.int .u32 (S.b.toNat : Int)) := cell_of_heap hH 1
          have c2 : wr.cell? ⟨w.heap.size, 2, none⟩ = some (.int .u32 (S.c.toNat : Int)) := cell_of_heap hH 2
          have c3 : wr.cell? ⟨w.heap.size, 3, none⟩ = some (.int .u32 (S.d.toNat : Int)) := cell_of_heap hH 3
          have c4 : wr.cell? ⟨w.heap.size, 4, none⟩ = some (.int .u32 (S.e.toNat : Int)) := cell_of_heap hH 4
          have c5 : wr.cell? ⟨w.heap.size, 5, none⟩ = some (.int .u32 (S.f.toNat : Int)) := cell_of_heap hH 5
          have c6 : wr.cell? ⟨w.heap.size, 6, none⟩ = some (.int .u32 (S.g.toNat : Int)) := cell_of_heap hH 6
          have c7 : wr.cell? ⟨w.heap.size, 7, none⟩ = some (.int .u32 (S.h.toNat : Int)) := cell_of_heap hH 7
          have hri : RoundsIn wr.drew := (HR.out.below hbl).below (Below.refl _ _).drew
          have HRI := Lib.hid hri; have HX64 := Lib.hid hx64; have HBK := Lib.hid hbk; have HXR := Lib.hid hxr; have HSZ := Lib.hid hsz'; have HH := Lib.hid hH; have HRR := Lib.hid hR; have HRS := Lib.hid hRs; have HS := Lib.hid hS; have HLT := Lib.hid hlt; have HSL := Lib.hid hsl
          clear hri hx64 hbk hxr hsz' hH hR hRs hS hlt hge0 hsl
          go_wp2
          refine wp_region_quiet_tail 3 (by kernel_rfl) (by kernel_rfl) ?_
          simp only [List.take_succ_cons, List.take_zero, List.drop_succ_cons, List.drop_zero]
          repeat (go_big_quiet_step (fail))
          refine wpQuiet_nil ?_
          clear c0 c1 c2 c3 c4 c5 c6 c7
          have hHd : wr.drew.heap[w.heap.size]? = some (.cells (h0Cells S) 87) := HH.out
          go_wp2_with fail
          refine (stir_any S _ HX64.out _ HRI.out).mono ?_
          rintro e W1 ⟨rfl, hb1⟩
          have hH1 : W1.heap[w.heap.size]? = some (.cells (h0Cells S) 87) := (hb1.block w.heap.size hlw).trans hHd
          have hd1 : Below w.heap.size w wr.drew := hbl.drew
          have hb01 : Below w.heap.size w W1 := hd1.trans (hb1.mono hd1.size)
          rw [HBK.out]
          have HH1 := Lib.hid hH1; have HB01 := Lib.hid hb01; clear hH1 hb01 hb1 hHd
          have HONE := Lib.hid (h0_one (blocksW M (j + 1)))
          generalize hS1 : blocksW M (j + 1) = S1 at *
          have HS1 := Lib.hid hS1; clear hS1
          have HTH : Hid (W1.there w.heap.size 0 (h0Cells S1).size) := Lib.hid (by rw [h0_size]; exact there8 HH1.out)
          have HI8 : Hid ((Tryd.prog.info? 87).map (·.size) = some (h0Cells S1).size) := Lib.hid (by rw [h0_size]; exact HIE.out)
          dsimp only
          go_step
          refine wpList_store_mid rfl 87 (.tmp 3) (.tmp 28) rfl w.heap.size 0 (h0Cells S1) rfl rfl HTH.out HI8.out HONE.out ?_
          have hH2 := set8_heap (s' := S1) HH1.out
          have hb2 := below_setCells HB01.out (Nat.le_refl w.heap.size) (h0Cells S1).toList 0
          generalize W1.setCells w.heap.size 0 (h0Cells S1).toList = W2 at *
          have HH2 := Lib.hid hH2; clear hH2
          go_wp2
          refine ⟨⟨j + 1, R.extract 64 R.size, by have := HLT.out; have := H64.out; omega, rfl, HXR.out, by rw [HS1.out]; exact HH2.out, hb2⟩, ?_⟩
          show (R.extract 64 R.size).size < R.size
          rw [HSZ.out]; omega
        · have hje : j = M.length / 64 := by omega
          have hem : R.toList = [] := by
            rw [ByteArray.toList_eq, hR]
            exact List.drop_of_length_le (by omega)
          have hem2 : (!R.toList.isEmpty) = false := by rw [hem]; rfl
          generalize hS : blocksW M j = S at *
          have c0 : wr.cell? ⟨w.heap.size, 0, none⟩ = some (.int .u32 (S.a.toNat : Int)) := cell_of_heap hH 0
          have c1 : wr.cell? ⟨w.heap.size, 1, none⟩ = some (.int .u32 (S.b.toNat : Int)) := cell_of_heap hH 1
          have c2 : wr.cell? ⟨w.heap.size, 2, none⟩ = some (.int .u32 (S.c.toNat : Int)) := cell_of_heap hH 2
          have c3 : wr.cell? ⟨w.heap.size, 3, none⟩ = some (.int .u32 (S.d.toNat : Int)) := cell_of_heap hH 3
          have c4 : wr.cell? ⟨w.heap.size, 4, none⟩ = some (.int .u32 (S.e.toNat : Int)) := cell_of_heap hH 4
          have c5 : wr.cell? ⟨w.heap.size, 5, none⟩ = some (.int .u32 (S.f.toNat : Int)) := cell_of_heap hH 5
          have c6 : wr.cell? ⟨w.heap.size, 6, none⟩ = some (.int .u32 (S.g.toNat : Int)) := cell_of_heap hH 6
          have c7 : wr.cell? ⟨w.heap.size, 7, none⟩ = some (.int .u32 (S.h.toNat : Int)) := cell_of_heap hH 7
          have HJ := Lib.hid hje; have HS := Lib.hid hS; have HB := Lib.hid hbl; have HSL := Lib.hid hsl
          clear hje hH hR hRs hS hbl hsl
          go_wp2_with fail
          refine (printed_any S _).mono ?_
          rintro e W1 ⟨rfl, hb1⟩
          have hb2 : Below w.heap.size w W1 := HB.out.trans (hb1.mono HB.out.size)
          clear c0 c1 c2 c3 c4 c5 c6 c7 hb1
          dsimp only
          go_wp2
          go_ret
          exact ⟨ret_str (by rw [HFIN.out, ← HJ.out, HS.out]), hb2⟩
end Go.Proofs.YthbbeojhipcjiaaDoor
namespace Go.Proofs.YthbbeojhipcjiaaDoor
open Go.RowKit

set_option maxRecDepth 100000 in
set_option maxHeartbeats 1000000 in
theorem mac_any (key b : ByteArray) (hk : key.size ≤ 1000000) (hbs : b.size ≤ 1000000) (w : World) (hr : RoundsIn w) :
    Calls Tryd.prog 27 #[.string key, .string b] w fun e w' => e = .returned (.string ⟨(macL key.data.toList b.data.toList).toArray⟩) ∧ Below w.heap.size w w' := by
  obtain ⟨hz, hi⟩ := zero_of_info Tryd.zero64b
  rw [← bC_zero 64] at hz
  have HZ := Lib.hid hz; have HI := Lib.hid hi; have HR := Lib.hid hr; clear hz hi hr
  go_enter Tryd.func27, Tryd.ntmps27
  by_cases h : 64 < key.size
  · have hd : decide ((64 : Int) < (key.size : Int)) = true := by simp; omega
    go_wp2_with fail
    refine (sum_any key (by omega) _ HR.out).mono ?_
    rintro e W0 ⟨rfl, hb0⟩
    have HKK : Hid ((ByteArray.mk (sumL key.data.toList).toArray).data.toList = keyL key.data.toList) := Lib.hid (by unfold keyL; rw [if_pos (show 64 < key.data.toList.length from h)])
    have HKS : Hid ((ByteArray.mk (sumL key.data.toList).toArray).size ≤ 64) := Lib.hid (by show (sumL _).length ≤ 64; rw [sumL_len]; omega)
    generalize ByteArray.mk (sumL key.data.toList).toArray = K1 at *
    dsimp only
    have hcp := copy_arr W0 64 K1 HKS.out 69
    have hC0 : bC 64 K1.data.toList = bC 64 (padK key.data.toList) := (congrArg (bC 64) HKK.out).trans (bC_pad _)
    simp only [hC0] at hcp
    have hsz := bC_size 64 (padK key.data.toList) (by rw [padK_len]; omega)
    have hone := bC_one 64 (padK key.data.toList)
    have hrg : (W0.alloc (.cells (bC 64 (padK key.data.toList)) 69)).rangeAt W0.heap.size 0 (bC 64 (padK key.data.toList)).toList := fun j v hv => by
      rw [Nat.zero_add]; exact arr_at W0 _ _ j v (by simpa using hv)
    have hll : (bC 64 (padK key.data.toList)).toList.length = 64 := by simpa using hsz
    have hAB : bC 64 (padK key.data.toList) = bC 64 (xorI 54 (padK key.data.toList) 0) ∧ bC 64 (padK key.data.toList) = bC 64 (xorI 92 (padK key.data.toList) 0) := by rw [xorI_zero, xorI_zero]; exact ⟨rfl, rfl⟩
    have HSZ := Lib.hid hsz; have HONE := Lib.hid hone; have HRG := Lib.hid hrg; have HLL := Lib.hid hll; have HAB := Lib.hid hAB; have HB0 := Lib.hid hb0
    clear hC0 hsz hone hrg hll hAB
    generalize bC 64 (padK key.data.toList) = C at *
    go_wp2_with (first
      | (with_reducible refine wpList_alloc_var 69 (.agg (bC 64 [])) HZ.out ?_)
      | (with_reducible refine wpList_load_mid rfl 69 (.tmp 5) rfl W0.heap.size 0 rfl C.toList _ HRG.out Tryd.underlying69 rfl (HI.out.trans (by rw [HLL.out])) ?_)
      | (refine wpList_store_new rfl 69 (.tmp 6) (.tmp 16) (bC 64 []) C rfl rfl rfl (HI.out.trans (by rw [HSZ.out])) (by rw [bC_size 64 [] (by simp), HSZ.out]) HONE.out ?_))
    have h1 : ((W0.alloc (.cells C 69)).alloc (.cells C 69)).heap[W0.heap.size]? = some (.cells C 69) := (Below.heap_alloc _ _ _ (by simp)).trans (heap_alloc_last W0 _)
    have h2 : ((W0.alloc (.cells C 69)).alloc (.cells C 69)).heap[W0.heap.size + 1]? = some (.cells C 69) := by
      have := heap_alloc_last (W0.alloc (.cells C 69)) (.cells C 69)
      simpa using this
    have hbX : Below w.heap.size w ((W0.alloc (.cells C 69)).alloc (.cells C 69)) := (HB0.out.alloc HB0.out.size _).alloc (Nat.le_trans HB0.out.size (by simp)) _
    obtain ⟨b1, hb1e⟩ : ∃ b1, b1 = W0.heap.size := ⟨_, rfl⟩
    have hg1 : w.heap.size ≤ b1 := by rw [hb1e]; exact HB0.out.size
    generalize (W0.alloc (.cells C 69)).alloc (.cells C 69) = X at *
    rw [← hb1e] at h1 h2 ⊢
    clear hb1e
    have H1 : Hid (X.heap[b1]? = some (.cells (bC 64 (xorI 54 (padK key.data.toList) 0)) 69)) := Lib.hid (by rw [← HAB.out.1]; exact h1)
    have H2 : Hid (X.heap[b1 + 1]? = some (.cells (bC 64 (xorI 92 (padK key.data.toList) 0)) 69)) := Lib.hid (by rw [← HAB.out.2]; exact h2)
    clear h1 h2 hcp HRG HB0
    have hpl := padK_len key.data.toList
    have hmac : macL key.data.toList b.data.toList = sumL (xorL 92 (padK key.data.toList) ++ sumL (xorL 54 (padK key.data.toList) ++ b.data.toList)) := rfl
    generalize padK key.data.toList = kp at *
    have HMAC := Lib.hid hmac; clear hmac
    go_loopw [17] (fun v W => ∃ i : Nat, i ≤ 64 ∧ v = .int .i64 (i : Int) ∧ W.heap[b1]? = some (.cells (bC 64 (xorI 54 kp i)) 69) ∧ W.heap[b1 + 1]? = some (.cells (bC 64 (xorI 92 kp i)) 69) ∧ Below w.heap.size w W) (fun v _ => 64 - (intOf v).toNat)
    case atStart => exact ⟨0, by omega, rfl, H1.out, H2.out, hbX⟩
    case round =>
      clear H1 H2 hbX
      obtain ⟨i, hi64, rfl, hh1, hh2, hbl⟩ := hrel
      by_cases hlt : i < 64
      · have hdi : decide ((i : Int) < 64) = true := by simp; omega
        have bi : (i : Int) < 64 := by omega
        have c1 : wr.cell? ⟨b1, i, none⟩ = some (.int .u8 (kp[i].toNat : Int)) := by
          rw [cell_of_heap hh1, bC_at 64 (xorI 54 kp i) i (by rw [xorI_len]; omega), xorI_at]
        have c2 : wr.cell? ⟨b1 + 1, i, none⟩ = some (.int .u8 (kp[i].toNat : Int)) := by
          rw [cell_of_heap hh2, bC_at 64 (xorI 92 kp i) i (by rw [xorI_len]; omega), xorI_at]
        have f1 : wr.frozen? ⟨b1, i, none⟩ = false := frozen_of_heap hh1
        have f2 : wr.frozen? ⟨b1 + 1, i, none⟩ = false := frozen_of_heap hh2
        have x1 : bits .xor .u8 (kp[i].toNat : Int) 54 = ((kp[i] ^^^ 54).toNat : Int) := xor8 kp[i] 54
        have x2 : bits .xor .u8 (kp[i].toNat : Int) 92 = ((kp[i] ^^^ 92).toNat : Int) := xor8 kp[i] 92
        have n1 := bC_set 64 (xorI 54 kp i) i (kp[i] ^^^ 54) (by rw [xorI_len]; omega)
        have n2 := bC_set 64 (xorI 92 kp i) i (kp[i] ^^^ 92) (by rw [xorI_len]; omega)
        rw [xorI_next 54 kp i (by omega)] at n1
        rw [xorI_next 92 kp i (by omega)] at n2
        generalize (kp[i] ^^^ 54).toNat = y1 at *
        generalize (kp[i] ^^^ 92).toNat = y2 at *
        generalize kp[i].toNat = kx at *
        have hne1 : b1 ≠ b1 + 1 := by omega
        have hne2 : b1 + 1 ≠ b1 := by omega
        have X1 := Lib.hid x1; have X2 := Lib.hid x2; have N1 := Lib.hid n1; have N2 := Lib.hid n2; have HH1 := Lib.hid hh1; have HH2 := Lib.hid hh2; have HPL := Lib.hid hpl
        clear x1 x2 n1 n2 hh1 hh2 hpl
        go_wp2
        have e1 : ((wr.setCell ⟨b1, i, none⟩ (.int .u8 (y1 : Int))).setCell ⟨b1 + 1, i, none⟩ (.int .u8 (y2 : Int))).heap[b1]? = some (.cells (bC 64 (xorI 54 kp (i + 1))) 69) := by
          rw [← N1.out]
          exact (Below.heap_setCell _ _ _ b1 (fun e => hne1 e)).trans (heap_set_cell HH1.out _)
        have e2 : ((wr.setCell ⟨b1, i, none⟩ (.int .u8 (y1 : Int))).setCell ⟨b1 + 1, i, none⟩ (.int .u8 (y2 : Int))).heap[b1 + 1]? = some (.cells (bC 64 (xorI 92 kp (i + 1))) 69) := by
          rw [← N2.out]
          exact heap_set_cell ((Below.heap_setCell _ _ _ (b1 + 1) (fun e => hne2 e)).trans HH2.out) _
        rw [X1.out, X2.out]
        exact ⟨⟨i + 1, by omega, by go_num, e1, e2, (hbl.setCell hg1 _).setCell (by show w.heap.size ≤ b1 + 1; omega) _⟩, by simp [intOf]; omega⟩
      · obtain rfl : i = 64 := by omega
        rw [xorI_all 54 kp 64 hpl] at hh1
        rw [xorI_all 92 kp 64 hpl] at hh2
        rw [show ((64 : Nat) : Int) = 64 from rfl]
        have hl1 : b1 < wr.heap.size := (Array.getElem?_eq_some_iff.1 hh1).1
        have hl2 : b1 + 1 < wr.heap.size := (Array.getElem?_eq_some_iff.1 hh2).1
        have hx1 : (xorL 54 kp).length = 64 := by unfold xorL; rw [List.length_map, hpl]
        have hx2 : (xorL 92 kp).length = 64 := by unfold xorL; rw [List.length_map, hpl]
        have hS : ∀ W, Below wr.heap.size wr W → (convert 67 9 (.slice (some ⟨b1 + 1, 0, none⟩) 64 64)).run Tryd.prog W = .ok (.string ⟨(xorL 92 kp).toArray⟩) W ∧ (convert 67 9 (.slice (some ⟨b1, 0, none⟩) 64 64)).run Tryd.prog W = .ok (.string ⟨(xorL 54 kp).toArray⟩) W := fun W h =>
          ⟨conv_heap W (b1 + 1) 64 64 _ _ ((h.block _ hl2).trans hh2) hx2.symm, conv_heap W b1 64 64 _ _ ((h.block _ hl1).trans hh1) hx1.symm⟩
        have hR : ∀ W, Below wr.heap.size wr W → RoundsIn W := fun W h => (HR.out.below hbl).below h
        obtain ⟨I, hI⟩ : ∃ I : ByteArray, I = ⟨(xorL 54 kp).toArray⟩ := ⟨_, rfl⟩
        obtain ⟨O, hO⟩ : ∃ O : ByteArray, O = ⟨(xorL 92 kp).toArray⟩ := ⟨_, rfl⟩
        have hIl : I.data.toList = xorL 54 kp := by rw [hI]
        have hOl : O.data.toList = xorL 92 kp := by rw [hO]
        rw [← hI, ← hO] at hS
        have hIs : I.size = 64 := by rw [← hx1, ← hIl]; rfl
        have hOs : O.size = 64 := by rw [← hx2, ← hOl]; rfl
        obtain ⟨D, hD⟩ : ∃ D : ByteArray, D = ⟨(sumL (I ++ b).data.toList).toArray⟩ := ⟨_, rfl⟩
        have hDl : D.data.toList = sumL (I ++ b).data.toList := by rw [hD]
        have hDs : D.size = 32 := by rw [hD]; rfl
        have hs1 : (I ++ b).size ≤ 1048576 := by rw [ByteArray.size_append]; omega
        have hs2 : (O ++ D).size ≤ 1048576 := by rw [ByteArray.size_append]; omega
        have e1 : ∀ W, (Op.stringOp .add I b).run Tryd.prog W = .ok (.string (I ++ b)) W := fun W => run_string_add_sum W _ _ (by omega)
        have e2 : ∀ W, (Op.stringOp .add O D).run Tryd.prog W = .ok (.string (O ++ D)) W := fun W => run_string_add_sum W _ _ (by omega)
        have hfin : sumL (O ++ D).data.toList = macL key.data.toList b.data.toList := by
          rw [HMAC.out, ByteArray.data_append, Array.toList_append, hOl, hDl, ByteArray.data_append, Array.toList_append, hIl]
        have HFIN := Lib.hid hfin; have HS1 := Lib.hid hs1; have HS2 := Lib.hid hs2; have HD := Lib.hid hD; have HSS := Lib.hid hS
        have hc0 := hS wr (Below.refl _ _)
        have hc1 := hS wr.drew (Below.refl _ _).drew
        clear hfin hs1 hs2 hD hS hI hO hIl hOl hIs hOs hDl hDs hh1 hh2 hx1 hx2 hpl
        go_wp2_with fail
        go_region_held3 (fun W => (convert 67 9 (.slice (some ⟨b1 + 1, 0, none⟩) 64 64)).run Tryd.prog W = .ok (.string O) W ∧ (convert 67 9 (.slice (some ⟨b1, 0, none⟩) 64 64)).run Tryd.prog W = .ok (.string I) W)
          (first | exact hc0 | exact hc1 | exact HSS.out _ ((below_drew2 _ _ hb2).chain hb3) | exact HSS.out _ (below_drew2 _ _ hb2))
          (first
            | (go_at_call 45; with_reducible refine (sum_any (I ++ b) HS1.out _ (hR _ ((Below.refl _ _).drew))).mono ?_; rw [← HD.out]; rintro e w2 ⟨rfl, hb2⟩)
            | (go_at_call 45; with_reducible refine (sum_any (O ++ D) HS2.out _ (hR _ (below_drew2 _ _ hb2))).mono ?_; rw [HFIN.out]; rintro e w3 ⟨rfl, hb3⟩))
        go_wp2
        go_ret
        exact ⟨rfl, hbl.trans (((below_drew2 _ _ hb2).chain hb3).mono hbl.size)⟩
  · have hd : decide ((64 : Int) < (key.size : Int)) = false := by simp; omega
    have HKK : Hid (key.data.toList = keyL key.data.toList) := Lib.hid (by unfold keyL; rw [if_neg (show ¬ 64 < key.data.toList.length from h)])
    have HKS : Hid (key.size ≤ 64) := Lib.hid (by omega)
    have hb0 := Below.refl w.heap.size w
    have hcp := copy_arr w 64 key HKS.out 69
    have hC0 : bC 64 key.data.toList = bC 64 (padK key.data.toList) := (congrArg (bC 64) HKK.out).trans (bC_pad _)
    simp only [hC0] at hcp
    have hsz := bC_size 64 (padK key.data.toList) (by rw [padK_len]; omega)
    have hone := bC_one 64 (padK key.data.toList)
    have hrg : (w.alloc (.cells (bC 64 (padK key.data.toList)) 69)).rangeAt w.heap.size 0 (bC 64 (padK key.data.toList)).toList := fun j v hv => by
      rw [Nat.zero_add]; exact arr_at w _ _ j v (by simpa using hv)
    have hll : (bC 64 (padK key.data.toList)).toList.length = 64 := by simpa using hsz
    have hAB : bC 64 (padK key.data.toList) = bC 64 (xorI 54 (padK key.data.toList) 0) ∧ bC 64 (padK key.data.toList) = bC 64 (xorI 92 (padK key.data.toList) 0) := by rw [xorI_zero, xorI_zero]; exact ⟨rfl, rfl⟩
    have HSZ := Lib.hid hsz; have HONE := Lib.hid hone; have HRG := Lib.hid hrg; have HLL := Lib.hid hll; have HAB := Lib.hid hAB; have HB0 := Lib.hid hb0
    clear hC0 hsz hone hrg hll hAB
    generalize bC 64 (padK key.data.toList) = C at *
    go_wp2_with (first
      | (with_reducible refine wpList_alloc_var 69 (.agg (bC 64 [])) HZ.out ?_)
      | (with_reducible refine wpList_load_mid rfl 69 (.tmp 5) rfl w.heap.size 0 rfl C.toList _ HRG.out Tryd.underlying69 rfl (HI.out.trans (by rw [HLL.out])) ?_)
      | (refine wpList_store_new rfl 69 (.tmp 6) (.tmp 16) (bC 64 []) C rfl rfl rfl (HI.out.trans (by rw [HSZ.out])) (by rw [bC_size 64 [] (by simp), HSZ.out]) HONE.out ?_))
    have h1 : ((w.alloc (.cells C 69)).alloc (.cells C 69)).heap[w.heap.size]? = some (.cells C 69) := (Below.heap_alloc _ _ _ (by simp)).trans (heap_alloc_last w _)
    have h2 : ((w.alloc (.cells C 69)).alloc (.cells C 69)).heap[w.heap.size + 1]? = some (.cells C 69) := by
      have := heap_alloc_last (w.alloc (.cells C 69)) (.cells C 69)
      simpa using this
    have hbX : Below w.heap.size w ((w.alloc (.cells C 69)).alloc (.cells C 69)) := (HB0.out.alloc HB0.out.size _).alloc (Nat.le_trans HB0.out.size (by simp)) _
    obtain ⟨b1, hb1e⟩ : ∃ b1, b1 = w.heap.size := ⟨_, rfl⟩
    have hg1 : w.heap.size ≤ b1 := by rw [hb1e]; exact HB0.out.size
    generalize (w.alloc (.cells C 69)).alloc (.cells C 69) = X at *
    rw [← hb1e] at h1 h2 ⊢
    clear hb1e
    have H1 : Hid (X.heap[b1]? = some (.cells (bC 64 (xorI 54 (padK key.data.toList) 0)) 69)) := Lib.hid (by rw [← HAB.out.1]; exact h1)
    have H2 : Hid (X.heap[b1 + 1]? = some (.cells (bC 64 (xorI 92 (padK key.data.toList) 0)) 69)) := Lib.hid (by rw [← HAB.out.2]; exact h2)
    clear h1 h2 hcp HRG HB0
    have hpl := padK_len key.data.toList
    have hmac : macL key.data.toList b.data.toList = sumL (xorL 92 (padK key.data.toList) ++ sumL (xorL 54 (padK key.data.toList) ++ b.data.toList)) := rfl
    generalize padK key.data.toList = kp at *
    have HMAC := Lib.hid hmac; clear hmac
    go_loopw [17] (fun v W => ∃ i : Nat, i ≤ 64 ∧ v = .int .i64 (i : Int) ∧ W.heap[b1]? = some (.cells (bC 64 (xorI 54 kp i)) 69) ∧ W.heap[b1 + 1]? = some (.cells (bC 64 (xorI 92 kp i)) 69) ∧ Below w.heap.size w W) (fun v _ => 64 - (intOf v).toNat)
    case atStart => exact ⟨0, by omega, rfl, H1.out, H2.out, hbX⟩
    case round =>
      clear H1 H2 hbX
      obtain ⟨i, hi64, rfl, hh1, hh2, hbl⟩ := hrel
      by_cases hlt : i < 64
      · have hdi : decide ((i : Int) < 64) = true := by simp; omega
        have bi : (i : Int) < 64 := by omega
        have c1 : wr.cell? ⟨b1, i, none⟩ = some (.int .u8 (kp[i].toNat : Int)) := by
          rw [cell_of_heap hh1, bC_at 64 (xorI 54 kp i) i (by rw [xorI_len]; omega), xorI_at]
        have c2 : wr.cell? ⟨b1 + 1, i, none⟩ = some (.int .u8 (kp[i].toNat : Int)) := by
          rw [cell_of_heap hh2, bC_at 64 (xorI 92 kp i) i (by rw [xorI_len]; omega), xorI_at]
        have f1 : wr.frozen? ⟨b1, i, none⟩ = false := frozen_of_heap hh1
        have f2 : wr.frozen? ⟨b1 + 1, i, none⟩ = false := frozen_of_heap hh2
        have x1 : bits .xor .u8 (kp[i].toNat : Int) 54 = ((kp[i] ^^^ 54).toNat : Int) := xor8 kp[i] 54
        have x2 : bits .xor .u8 (kp[i].toNat : Int) 92 = ((kp[i] ^^^ 92).toNat : Int) := xor8 kp[i] 92
        have n1 := bC_set 64 (xorI 54 kp i) i (kp[i] ^^^ 54) (by rw [xorI_len]; omega)
        have n2 := bC_set 64 (xorI 92 kp i) i (kp[i] ^^^ 92) (by rw [xorI_len]; omega)
        rw [xorI_next 54 kp i (by omega)] at n1
        rw [xorI_next 92 kp i (by omega)] at n2
        generalize (kp[i] ^^^ 54).toNat = y1 at *
        generalize (kp[i] ^^^ 92).toNat = y2 at *
        generalize kp[i].toNat = kx at *
        have hne1 : b1 ≠ b1 + 1 := by omega
        have hne2 : b1 + 1 ≠ b1 := by omega
        have X1 := Lib.hid x1; have X2 := Lib.hid x2; have N1 := Lib.hid n1; have N2 := Lib.hid n2; have HH1 := Lib.hid hh1; have HH2 := Lib.hid hh2; have HPL := Lib.hid hpl
        clear x1 x2 n1 n2 hh1 hh2 hpl
        go_wp2
        have e1 : ((wr.setCell ⟨b1, i, none⟩ (.int .u8 (y1 : Int))).setCell ⟨b1 + 1, i, none⟩ (.int .u8 (y2 : Int))).heap[b1]? = some (.cells (bC 64 (xorI 54 kp (i + 1))) 69) := by
          rw [← N1.out]
          exact (Below.heap_setCell _ _ _ b1 (fun e => hne1 e)).trans (heap_set_cell HH1.out _)
        have e2 : ((wr.setCell ⟨b1, i, none⟩ (.int .u8 (y1 : Int))).setCell ⟨b1 + 1, i, none⟩ (.int .u8 (y2 : Int))).heap[b1 + 1]? = some (.cells (bC 64 (xorI 92 kp (i + 1))) 69) := by
          rw [← N2.out]
          exact heap_set_cell ((Below.heap_setCell _ _ _ (b1 + 1) (fun e => hne2 e)).trans HH2.out) _
        rw [X1.out, X2.out]
        exact ⟨⟨i + 1, by omega, by go_num, e1, e2, (hbl.setCell hg1 _).setCell (by show w.heap.size ≤ b1 + 1; omega) _⟩, by simp [intOf]; omega⟩
      · obtain rfl : i = 64 := by omega
        rw [xorI_all 54 kp 64 hpl] at hh1
        rw [xorI_all 92 kp 64 hpl] at hh2
        rw [show ((64 : Nat) : Int) = 64 from rfl]
        have hl1 : b1 < wr.heap.size := (Array.getElem?_eq_some_iff.1 hh1).1
        have hl2 : b1 + 1 < wr.heap.size := (Array.getElem?_eq_some_iff.1 hh2).1
        have hx1 : (xorL 54 kp).length = 64 := by unfold xorL; rw [List.length_map, hpl]
        have hx2 : (xorL 92 kp).length = 64 := by unfold xorL; rw [List.length_map, hpl]
        have hS : ∀ W, Below wr.heap.size wr W → (convert 67 9 (.slice (some ⟨b1 + 1, 0, none⟩) 64 64)).run Tryd.prog W = .ok (.string ⟨(xorL 92 kp).toArray⟩) W ∧ (convert 67 9 (.slice (some ⟨b1, 0, none⟩) 64 64)).run Tryd.prog W = .ok (.string ⟨(xorL 54 kp).toArray⟩) W := fun W h =>
          ⟨conv_heap W (b1 + 1) 64 64 _ _ ((h.block _ hl2).trans hh2) hx2.symm, conv_heap W b1 64 64 _ _ ((h.block _ hl1).trans hh1) hx1.symm⟩
        have hR : ∀ W, Below wr.heap.size wr W → RoundsIn W := fun W h => (HR.out.below hbl).below h
        obtain ⟨I, hI⟩ : ∃ I : ByteArray, I = ⟨(xorL 54 kp).toArray⟩ := ⟨_, rfl⟩
        obtain ⟨O, hO⟩ : ∃ O : ByteArray, O = ⟨(xorL 92 kp).toArray⟩ := ⟨_, rfl⟩
        have hIl : I.data.toList = xorL 54 kp := by rw [hI]
        have hOl : O.data.toList = xorL 92 kp := by rw [hO]
        rw [← hI, ← hO] at hS
        have hIs : I.size = 64 := by rw [← hx1, ← hIl]; rfl
        have hOs : O.size = 64 := by rw [← hx2, ← hOl]; rfl
        obtain ⟨D, hD⟩ : ∃ D : ByteArray, D = ⟨(sumL (I ++ b).data.toList).toArray⟩ := ⟨_, rfl⟩
        have hDl : D.data.toList = sumL (I ++ b).data.toList := by rw [hD]
        have hDs : D.size = 32 := by rw [hD]; rfl
        have hs1 : (I ++ b).size ≤ 1048576 := by rw [ByteArray.size_append]; omega
        have hs2 : (O ++ D).size ≤ 1048576 := by rw [ByteArray.size_append]; omega
        have e1 : ∀ W, (Op.stringOp .add I b).run Tryd.prog W = .ok (.string (I ++ b)) W := fun W => run_string_add_sum W _ _ (by omega)
        have e2 : ∀ W, (Op.stringOp .add O D).run Tryd.prog W = .ok (.string (O ++ D)) W := fun W => run_string_add_sum W _ _ (by omega)
        have hfin : sumL (O ++ D).data.toList = macL key.data.toList b.data.toList := by
          rw [HMAC.out, ByteArray.data_append, Array.toList_append, hOl, hDl, ByteArray.data_append, Array.toList_append, hIl]
        have HFIN := Lib.hid hfin; have HS1 := Lib.hid hs1; have HS2 := Lib.hid hs2; have HD := Lib.hid hD; have HSS := Lib.hid hS
        have hc0 := hS wr (Below.refl _ _)
        have hc1 := hS wr.drew (Below.refl _ _).drew
        clear hfin hs1 hs2 hD hS hI hO hIl hOl hIs hOs hDl hDs hh1 hh2 hx1 hx2 hpl
        go_wp2_with fail
        go_region_held3 (fun W => (convert 67 9 (.slice (some ⟨b1 + 1, 0, none⟩) 64 64)).run Tryd.prog W = .ok (.string O) W ∧ (convert 67 9 (.slice (some ⟨b1, 0, none⟩) 64 64)).run Tryd.prog W = .ok (.string I) W)
          (first | exact hc0 | exact hc1 | exact HSS.out _ ((below_drew2 _ _ hb2).chain hb3) | exact HSS.out _ (below_drew2 _ _ hb2))
          (first
            | (go_at_call 45; with_reducible refine (sum_any (I ++ b) HS1.out _ (hR _ ((Below.refl _ _).drew))).mono ?_; rw [← HD.out]; rintro e w2 ⟨rfl, hb2⟩)
            | (go_at_call 45; with_reducible refine (sum_any (O ++ D) HS2.out _ (hR _ (below_drew2 _ _ hb2))).mono ?_; rw [HFIN.out]; rintro e w3 ⟨rfl, hb3⟩))
        go_wp2
        go_ret
        exact ⟨rfl, hbl.trans (((below_drew2 _ _ hb2).chain hb3).mono hbl.size)⟩
end Go.Proofs.YthbbeojhipcjiaaDoor
namespace Go.Proofs.YthbbeojhipcjiaaDoor
open Go.RowKit

theorem push8_lt (H : Nat) (b : UInt8) : push8 H b < 4294967296 := by have := b.toNat_lt; unfold push8; omega
theorem or_push8 (H : Nat) (b : UInt8) : bits .or .u32 ((H : Int) * 256 % 4294967296) ((b.toNat : Int) % 4294967296) = (push8 H b : Int) := by
  have := b.toNat_lt
  rw [show (b.toNat : Int) % 4294967296 = b.toNat by omega]
  rw [bits_join .u32 32 (by decide) (fun n h0 h1 => by rw [IntKind.wrap_u32]; omega) 8 _ _ (by omega) (by omega) (by omega) (by omega) (by omega) (by omega)]
  unfold push8; omega
theorem and63 (x : Int) (h0 : 0 ≤ x) (h1 : x < 4294967296) : bits .and .u32 x 63 = x % 64 :=
  bits_mask .u32 32 (by decide) (fun n h0 h1 => by rw [IntKind.wrap_u32]; omega) 6 (by decide) x h0 h1

theorem cells_ltr (l : List UInt8) (n m : Nat) (hn : n = m) (h : n < (ByteArray.mk ltrs).size) : cells l ++ [Value.int .u8 ((ByteArray.mk ltrs)[n].toNat : Int)] = cells (l ++ [ltr m]) := by
  subst hn
  rw [ltr_at h, cells_app]; rfl

def EncAt (l : List UInt8) (k : Nat) (H bits : Nat) (acc : List UInt8) : Prop := enc l = acc ++ encS H bits (l.drop k)

theorem encAt_0 {l acc : List UInt8} {k H : Nat} (h : EncAt l k H 0 acc) (hk : k < l.length) : EncAt l (k + 1) (push8 H l[k]) 2 (acc ++ [ltr (push8 H l[k] / 4 % 64)]) := by
  unfold EncAt at h ⊢; rw [h, List.drop_eq_getElem_cons hk, encS_0]; simp
theorem encAt_2 {l acc : List UInt8} {k H : Nat} (h : EncAt l k H 2 acc) (hk : k < l.length) : EncAt l (k + 1) (push8 H l[k]) 4 (acc ++ [ltr (push8 H l[k] / 16 % 64)]) := by
  unfold EncAt at h ⊢; rw [h, List.drop_eq_getElem_cons hk, encS_2]; simp
theorem encAt_4 {l acc : List UInt8} {k H : Nat} (h : EncAt l k H 4 acc) (hk : k < l.length) : EncAt l (k + 1) (push8 H l[k]) 0 (acc ++ [ltr (push8 H l[k] / 64 % 64)] ++ [ltr (push8 H l[k] % 64)]) := by
  unfold EncAt at h ⊢; rw [h, List.drop_eq_getElem_cons hk, encS_4]; simp
theorem encAt_end0 {l acc : List UInt8} {H : Nat} (h : EncAt l l.length H 0 acc) : acc = enc l := by
  unfold EncAt at h; rw [h, List.drop_length]; simp [encS]
theorem encAt_end2 {l acc : List UInt8} {H : Nat} (h : EncAt l l.length H 2 acc) : acc ++ [ltr (H * 16 % 64)] = enc l := by
  unfold EncAt at h; rw [h, List.drop_length, encS_end2, show H * 16 % 4294967296 % 64 = H * 16 % 64 by omega]
theorem encAt_end4 {l acc : List UInt8} {H : Nat} (h : EncAt l l.length H 4 acc) : acc ++ [ltr (H * 4 % 64)] = enc l := by
  unfold EncAt at h; rw [h, List.drop_length, encS_end4, show H * 4 % 4294967296 % 64 = H * 4 % 64 by omega]

set_option maxHeartbeats 1000000 in
set_option maxRecDepth 100000 in
theorem encode_any (s : ByteArray) (hs : s.size ≤ 46912496117759) (w : World) :
    Calls Tryd.prog 25 #[.string s] w fun e w' => e = .returned (.string ⟨(enc s.data.toList).toArray⟩) ∧ Below w.heap.size w w' := by
  obtain ⟨i0, hi, hz0, hz1, hz2⟩ := info_parts Tryd.infoByte
  go_enter Tryd.func25, Tryd.ntmps25
  go_wp2_with (at_make; refine wpList_make_own _ rfl _ _ 67 rfl w.heap.size 5 i0 _ 1 Tryd.underlying67 hi hz0 hz1 _ _ _ (s.size / 3 * 4 + 3) rfl rfl (by omega) (by rw [hz2]; omega) (by unfold maxLen; omega) (Nat.le_refl _) ?_)
  intro w0 hown0 hg0
  have hb0 : Below w.heap.size w w0 := (Below.refl _ _).grown hg0 (Nat.le_refl _) (by simp)
  go_wp2
  go_loopw [3, 4, 5, 15] (fun v h b i wr => ∃ (k H bits : Nat) (acc : List UInt8), k ≤ s.size ∧ i = .int .i64 k ∧ h = .int .u32 H ∧ H < 4294967296 ∧ b = .int .i64 bits ∧ (bits = 0 ∨ bits = 2 ∨ bits = 4) ∧ Buf wr w.heap.size v acc ∧ acc.length ≤ 2 * k ∧ EncAt s.data.toList k H bits acc ∧ Below w.heap.size w wr) (fun _ _ _ i _ => s.size - (intOf i).toNat)
  case atStart => exact ⟨0, 0, 0, [], Nat.zero_le _, rfl, rfl, by decide, rfl, .inl rfl, hown0, Nat.zero_le _, (encS_enc _ 0).symm, hb0⟩
  case round =>
    obtain ⟨k, H, bts, acc, hk, rfl, rfl, hH, rfl, h024, hown, hal, hat, hb⟩ := hrel
    have HA := Lib.hid hat; clear hat
    have hbs := hb.size
    by_cases hlt : k < s.size
    · have hp := push8_lt H s[k]
      have ho := or_push8 H s[k]
      have p4 := and63 ((push8 H s[k] : Int) / 4) (by omega) (by omega)
      have p16 := and63 ((push8 H s[k] : Int) / 16) (by omega) (by omega)
      have p64 := and63 ((push8 H s[k] : Int) / 64) (by omega) (by omega)
      have p1 := and63 ((push8 H s[k] : Int)) (by omega) (by omega)
      rcases h024 with rfl | rfl | rfl
      · clear p16 p64 p1
        go_wp2
        refine wp_loop_rounds 2 ?_
        rw [rounds_succ]
        go_wp2_with (at_builtin; refine wpList_append_own _ rfl (.tmp 31) (.tmp 37) 67 rfl w.heap.size 5 i0 _ 1 1 Tryd.underlying67 hi hz0 hz1 hz2 rfl (by decide) _ _ _ rfl (World.ownsRow.alloc hown _) ⟨_, 0, none⟩ 1 1 [.int .u8 _] rfl rfl (new_cells _ #[_] _) (one_cell _) (by unfold maxLen; omega) (by omega) (by simp; omega) ?_)
        intro v' w1 hown' hg' _
        have hb1 : Below w.heap.size w w1 := (hb.alloc hbs _).grown hg' (by simp; omega) (fun j hj => (hown.lt j hj).1)
        go_wp2
        rw [rounds_succ]
        go_wp2
        go_roundw
        case rel => exact ⟨k + 1, push8 H s[k], 2, acc ++ [ltr (push8 H s[k] / 4 % 64)], by omega, by go_num, rfl, hp, rfl, .inr (.inl rfl), Buf.cut hown' (by simp) (cells_ltr _ _ _ (by omega) _), by simp; omega, encAt_0 HA.out hlt, hb1⟩
        case measure => simp [intOf]; omega
      · clear p4 p64 p1
        go_wp2
        refine wp_loop_rounds 2 ?_
        rw [rounds_succ]
        go_wp2_with (at_builtin; refine wpList_append_own _ rfl (.tmp 31) (.tmp 37) 67 rfl w.heap.size 5 i0 _ 1 1 Tryd.underlying67 hi hz0 hz1 hz2 rfl (by decide) _ _ _ rfl (World.ownsRow.alloc hown _) ⟨_, 0, none⟩ 1 1 [.int .u8 _] rfl rfl (new_cells _ #[_] _) (one_cell _) (by unfold maxLen; omega) (by omega) (by simp; omega) ?_)
        intro v' w1 hown' hg' _
        have hb1 : Below w.heap.size w w1 := (hb.alloc hbs _).grown hg' (by simp; omega) (fun j hj => (hown.lt j hj).1)
        go_wp2
        rw [rounds_succ]
        go_wp2
        go_roundw
        case rel => exact ⟨k + 1, push8 H s[k], 4, acc ++ [ltr (push8 H s[k] / 16 % 64)], by omega, by go_num, rfl, hp, rfl, .inr (.inr rfl), Buf.cut hown' (by simp) (cells_ltr _ _ _ (by omega) _), by simp; omega, encAt_2 HA.out hlt, hb1⟩
        case measure => simp [intOf]; omega
      · clear p4 p16
        go_wp2
        refine wp_loop_rounds 3 ?_
        rw [rounds_succ]
        go_wp2_with (at_builtin; refine wpList_append_own _ rfl (.tmp 31) (.tmp 37) 67 rfl w.heap.size 5 i0 _ 1 1 Tryd.underlying67 hi hz0 hz1 hz2 rfl (by decide) _ _ _ rfl (World.ownsRow.alloc hown _) ⟨_, 0, none⟩ 1 1 [.int .u8 _] rfl rfl (new_cells _ #[_] _) (one_cell _) (by unfold maxLen; omega) (by omega) (by simp; omega) ?_)
        intro v' w1 hown' hg' _
        have hb1 : Below w.heap.size w w1 := (hb.alloc hbs _).grown hg' (by simp; omega) (fun j hj => (hown.lt j hj).1)
        have hown1 : Buf w1 w.heap.size v' (acc ++ [ltr (push8 H s[k] / 64 % 64)]) := Buf.cut hown' (by simp) (cells_ltr _ _ _ (by omega) _)
        have hbs1 := hb1.size
        have hl1 : (acc ++ [ltr (push8 H s[k] / 64 % 64)]).length ≤ 2 * k + 1 := by simp; omega
        clear hown' hg'
        go_wp2
        rw [rounds_succ]
        go_wp2_with (at_builtin; refine wpList_append_own _ rfl (.tmp 31) (.tmp 37) 67 rfl w.heap.size 5 i0 _ 1 1 Tryd.underlying67 hi hz0 hz1 hz2 rfl (by decide) _ _ _ rfl (World.ownsRow.alloc hown1 _) ⟨_, 0, none⟩ 1 1 [.int .u8 _] rfl rfl (new_cells _ #[_] _) (one_cell _) (by unfold maxLen; omega) (by omega) (by simp; omega) ?_)
        intro v2 w2 hown' hg' _
        have hb2 : Below w.heap.size w w2 := (hb1.alloc hbs1 _).grown hg' (by simp; omega) (fun j hj => (hown1.lt j hj).1)
        go_wp2
        rw [rounds_succ]
        go_wp2
        go_roundw
        case rel => exact ⟨k + 1, push8 H s[k], 0, acc ++ [ltr (push8 H s[k] / 64 % 64)] ++ [ltr (push8 H s[k] % 64)], by omega, by go_num, rfl, hp, rfl, .inl rfl, Buf.cut hown' (by simp) (cells_ltr _ _ _ (by omega) _), by simp; omega, encAt_4 HA.out hlt, hb2⟩
        case measure => simp [intOf]; omega
    · have hke : k = s.size := by omega
      subst hke
      rcases h024 with rfl | rfl | rfl
      · have hcv := hown.text
        go_wp2
        go_ret
        exact ⟨ret_str (encAt_end0 HA.out), hb⟩
      · have q16 := and63 ((H : Int) * 16 % 4294967296) (by omega) (by omega)
        go_wp2_with (at_builtin; refine wpList_append_own _ rfl (.tmp 42) (.tmp 49) 67 rfl w.heap.size 5 i0 _ 1 1 Tryd.underlying67 hi hz0 hz1 hz2 rfl (by decide) _ _ _ rfl (World.ownsRow.alloc hown _) ⟨_, 0, none⟩ 1 1 [.int .u8 _] rfl rfl (new_cells _ #[_] _) (one_cell _) (by unfold maxLen; omega) (by omega) (by simp; omega) ?_)
        intro v' w1 hown' hg' _
        have hb1 : Below w.heap.size w w1 := (hb.alloc hbs _).grown hg' (by simp; omega) (fun j hj => (hown.lt j hj).1)
        have hcv := (Buf.cut (l := acc ++ [ltr (H * 16 % 64)]) hown' (by simp) (cells_ltr _ _ _ (by omega) _)).text
        go_wp2
        go_ret
        exact ⟨ret_str (encAt_end2 HA.out), hb1⟩
      · have q4 := and63 ((H : Int) * 4 % 4294967296) (by omega) (by omega)
        go_wp2_with (at_builtin; refine wpList_append_own _ rfl (.tmp 42) (.tmp 49) 67 rfl w.heap.size 5 i0 _ 1 1 Tryd.underlying67 hi hz0 hz1 hz2 rfl (by decide) _ _ _ rfl (World.ownsRow.alloc hown _) ⟨_, 0, none⟩ 1 1 [.int .u8 _] rfl rfl (new_cells _ #[_] _) (one_cell _) (by unfold maxLen; omega) (by omega) (by simp; omega) ?_)
        intro v' w1 hown' hg' _
        have hb1 : Below w.heap.size w w1 := (hb.alloc hbs _).grown hg' (by simp; omega) (fun j hj => (hown.lt j hj).1)
        have hcv := (Buf.cut (l := acc ++ [ltr (H * 4 % 64)]) hown' (by simp) (cells_ltr _ _ _ (by omega) _)).text
        go_wp2
        go_ret
        exact ⟨ret_str (encAt_end4 HA.out), hb1⟩
end Go.Proofs.YthbbeojhipcjiaaDoor
namespace Go.Proofs.YthbbeojhipcjiaaDoor
open Go.RowKit
set_option linter.unusedVariables false
set_option linter.unusedSimpArgs false

/-- the object that head prints -/
def headO (id : List UInt8) : V := objV (objS [] [([97, 108, 103], [72, 83, 50, 53, 54]), ([107, 105, 100], id)])
theorem headO_eq (id : List UInt8) : headO id = .mk 6 0 [] [.mk 4 0 [72, 83, 50, 53, 54] [] [], .mk 4 0 id [] []] [[97, 108, 103], [107, 105, 100]] := by
  simp [headO, objS, objV, objL, objK]
theorem headO_print (id : List UInt8) : printV (headO id) = headT id := by
  rw [headO_eq]
  unfold printV
  rw [if_pos (by simp [V.fits, V.fitsAll, headB, unlikeB])]
  rw [show_object, pairs_cons]
  simp [V.pairsMore, V.show, headT, quoteJ, quoteT, quoteC]
theorem headO_show (id : List UInt8) : (headO id).show = headT id := by
  have h := headO_print id
  unfold printV at h
  rwa [if_pos (by rw [headO_eq]; simp [V.fits, V.fitsAll, headB, unlikeB])] at h
/-- the library's variables, as the walks want them -/
structure JwsIn (w : World) : Prop where
  rounds : RoundsIn w
  tab : TabIn w.heap.size w
  var : ∃ m, w.cell? ⟨1, 0, none⟩ = some (.int .i64 m)
theorem lt_cell {w : World} {g o : Nat} {v : Value} (h : w.cell? ⟨g, o, none⟩ = some v) : g < w.heap.size := by
  refine Nat.lt_of_not_le fun hle => ?_
  have : w.cell? ⟨g, o, none⟩ = none := by simp [World.cell?, Array.getElem?_eq_none hle]
  rw [this] at h; cases h
theorem JwsIn.below {w w' : World} (h : JwsIn w) (hb : Below w.heap.size w w') : JwsIn w' := by
  obtain ⟨h1, h2, m, h3⟩ := h
  exact ⟨h1.below hb, (h2.below hb).more hb.size, m, (hb.cell (p := ⟨1, 0, none⟩) (lt_cell h3)).trans h3⟩
theorem JwsIn.alloc {w : World} (h : JwsIn w) (o : Obj) : JwsIn (w.alloc o) := h.below ((Below.refl _ _).alloc (Nat.le_refl _) o)

set_option maxRecDepth 100000 in
set_option maxHeartbeats 2000000 in
theorem head_any (id sec : List UInt8) (hid : id.length ≤ 1000000) (w : World) (hj : JwsIn w) :
    Calls Tryd.prog 26 #[.agg #[.string ⟨id.toArray⟩, .string ⟨sec.toArray⟩]] w fun e w' => e = .returned (.string ⟨(headT id).toArray⟩) ∧ Below w.heap.size w w' := by
  obtain ⟨W1, hW1⟩ : ∃ W1, W1 = ((w.alloc (.cells #[.string ⟨id.toArray⟩, .string ⟨sec.toArray⟩] 33)).alloc (.cells #[.string ⟨#[97, 108, 103]⟩, .string ⟨#[72, 83, 50, 53, 54]⟩, .string ⟨#[107, 105, 100]⟩, .string ⟨id.toArray⟩] 52)) := ⟨_, rfl⟩
  have b1 : Below w.heap.size w W1 := by rw [hW1]; exact ((Below.refl _ _).alloc (Nat.le_refl _) _).alloc (by simp) _
  have j1 : JwsIn W1 := hj.below b1
  have s1 : W1.heap.size = w.heap.size + 2 := by rw [hW1]; simp
  have c1 : W1.heap[w.heap.size + 1]? = some (.cells #[.string ⟨#[97, 108, 103]⟩, .string ⟨#[72, 83, 50, 53, 54]⟩, .string ⟨#[107, 105, 100]⟩, .string ⟨id.toArray⟩] 52 (0, 0)) := by
    rw [hW1]
    have := heap_alloc_last (w.alloc (.cells #[.string ⟨id.toArray⟩, .string ⟨sec.toArray⟩] 33)) (.cells #[.string ⟨#[97, 108, 103]⟩, .string ⟨#[72, 83, 50, 53, 54]⟩, .string ⟨#[107, 105, 100]⟩, .string ⟨id.toArray⟩] 52)
    simpa using this
  have hp : Prs W1 W1.heap.size (some ⟨w.heap.size + 1, 0, none⟩) [([97, 108, 103], [72, 83, 50, 53, 54]), ([107, 105, 100], id)] := fun k hk => by
    refine ⟨_, rfl, by rw [s1]; exact Nat.lt_succ_self _, ?_⟩
    match k, hk with
    | 0, _ => exact ⟨by rw [Addr.add_lit]; rw [cell_here c1]; rfl, by rw [Addr.add_lit]; rw [cell_here c1]; rfl⟩
    | 1, _ => exact ⟨by rw [Addr.add_lit]; rw [cell_here c1]; rfl, by rw [Addr.add_lit]; rw [cell_here c1]; rfl⟩
  have ho := object_any (some ⟨w.heap.size + 1, 0, none⟩) 2 [([97, 108, 103], [72, 83, 50, 53, 54]), ([107, 105, 100], id)] (by simp) (by intro p hp; simp at hp; unfold maxLen; rcases hp with rfl | rfl <;> (simp; try omega)) W1 hp
  have hpr := fun (cs : List Value) (w2 : World) (hb : Below W1.heap.size W1 w2) (hv : VIs w2 W1.heap.size w2.heap.size (headO id) cs) => printT_any (headO id) w2 W1.heap.size w2.heap.size cs (fun _ => by rw [headO_show]; have := headT_le id; omega) hv (Nat.le_refl _) (j1.below hb).tab
  rw [headO_print] at hpr
  change Calls Tryd.prog 9 #[.slice (some ⟨w.heap.size + 1, 0, none⟩) 2 2] W1 _ at ho
  have HO := Lib.hid ho; have HPR := Lib.hid hpr; have HB := Lib.hid b1; have HW := Lib.hid hW1
  clear ho hpr b1 hp c1 s1 j1 hj hW1
  go_enter Tryd.func26, Tryd.ntmps26
  go_wp2_with fail
  rw [← HW.out]
  refine (HO.out).mono ?_
  rintro e2 w2 ⟨⟨B, b, B', b', rfl, hv⟩, hb2⟩
  dsimp only
  have h2 := HPR.out _ w2 hb2 hv
  have H2 := Lib.hid h2; have HB2 := Lib.hid hb2
  clear h2 hb2 hv
  go_wp2_with fail
  refine (H2.out).mono ?_
  rintro e3 w3 ⟨rfl, hb3⟩
  dsimp only
  have HB3 := Lib.hid hb3
  clear hb3
  go_wp2_with fail
  go_ret
  exact ⟨rfl, HB.out.trans ((HB2.out.chain HB3.out).mono HB.out.size)⟩
end Go.Proofs.YthbbeojhipcjiaaDoor
namespace Go.Proofs.YthbbeojhipcjiaaDoor
open Go.RowKit

set_option maxRecDepth 100000 in
set_option maxHeartbeats 2000000 in
theorem refShift_loop {x0 x1 x2 x3 x4 x5 x6 x7 x8 x9 x10 x11 x12 x13 x15 x16 x17 x19 x20 x21 x22 x23 x24 x25 x26 x27 x28 x29 x30 x31 x32 x33 x34 x35 x36 x37 x38 x39 x40 x41 x42 x43 x44 x45 x46 x47 x48 x49 x50 x51 x52 x53 x54 x55 x56 x57 x58 x59 x60 x61 x62 x63 x64 x65 x66 x67 x68 x69 x70 x71 x72 x73 x74 x75 x76 x77 x78 x79 x80 x81 x82 x83 x84 x85 x86 x87 x88 x89 x90 x91 x92 x93 x94 x95 x96 x97 x98 x99 x100 x101 x102 x103 x104 x105 x106 x107 x108 x109 x110 x111 x112 x113 x114 x115 x116 x117 x118 x119 x120 x121 x122 x123 x124 x125 x126 x127 x128 x129 x130 x131 x132 x133 x134 x135 x136 x137 x138 x139 x140 x141 x142 x143 x144 x145 x146 x147 x148 x149 x150 x151 x152 x153 x154 x155 x156 x157 x158 x159 x160 x161 x162 x163 x164 x165 x166 x167 x168 x169 x170 x171 x172 x173 x174 x175 x176 x177 x178 x179 x180 x181 x182 x183 x184 x185 x186 x187 x188 x189 x190 x191 x192 x193 x194 x195 x196 x197 x198 x199 x200 x201 x202 x203 x204 x205 x206 x207 x208 x209 x210 x211 x212 x213 x214 x215 x216 x217 x218 x219 x220 x221 x222 x223 x224 x225 x226 x227 x228 x229 x230 x231 x232 x233 x234 x235 x236 x237 x238 x239 x240 x241 x242 x243 x244 x245 x246 x247 x248 x249 x250 x251 x252 x253 x254 x255 x256 x257 x258 x259 x260 x261 x262 x263 x264 x265 x266 x267 x268 x269 x270 x271 x272 x273 x274 x275 x276 : Value} (X : World) (s : S8) (q : Nat) (Q : Exit → Act → World → Prop)
    (hexit : ∀ (y18 y217 y218 y219 y220 y221 y222 y223 y224 y225 y226 : Value), Q (.exit 10) ⟨#[x0, x1, x2, x3, x4, x5, x6, x7, x8, x9, x10, x11, x12, x13, .pointer (some ⟨X.heap.size, 0, none⟩), x15, x16, x17, y18, x19, x20, x21, x22, x23, x24, x25, x26, x27, x28, x29, x30, x31, x32, x33, x34, x35, x36, x37, x38, x39, x40, x41, x42, x43, x44, x45, x46, x47, x48, x49, x50, x51, x52, x53, x54, x55, x56, x57, x58, x59, x60, x61, x62, x63, x64, x65, x66, x67, x68, x69, x70, x71, x72, x73, x74, x75, x76, x77, x78, x79, x80, x81, x82, x83, x84, x85, x86, x87, x88, x89, x90, x91, x92, x93, x94, x95, x96, x97, x98, x99, x100, x101, x102, x103, x104, x105, x106, x107, x108, x109, x110, x111, x112, x113, x114, x115, x116, x117, x118, x119, x120, x121, x122, x123, x124, x125, x126, x127, x128, x129, x130, x131, x132, x133, x134, x135, x136, x137, x138, x139, x140, x141, x142, x143, x144, x145, x146, x147, x148, x149, x150, x151, x152, x153, x154, x155, x156, x157, x158, x159, x160, x161, x162, x163, x164, x165, x166, x167, x168, x169, x170, x171, x172, x173, x174, x175, x176, x177, x178, x179, x180, x181, x182, x183, x184, x185, x186, x187, x188, x189, x190, x191, x192, x193, x194, x195, x196, x197, x198, x199, x200, x201, x202, x203, x204, x205, x206, x207, x208, x209, x210, x211, x212, x213, x214, x215, x216, y217, y218, y219, y220, y221, y222, y223, y224, y225, y226, x227, x228, x229, x230, x231, x232, x233, x234, x235, x236, x237, x238, x239, x240, x241, x242, x243, x244, x245, x246, x247, x248, x249, x250, x251, x252, x253, x254, x255, x256, x257, x258, x259, x260, x261, x262, x263, x264, x265, x266, x267, x268, x269, x270, x271, x272, x273, x274, x275, x276], []⟩ ((X.alloc (.cells (eightC (shiftF s 0)) 87)).drewN q)) :
    Code.wp Tryd.prog (refLoop 31) Q ⟨#[x0, x1, x2, x3, x4, x5, x6, x7, x8, x9, x10, x11, x12, x13, .pointer (some ⟨X.heap.size, 0, none⟩), x15, x16, x17, .int .i64 7, x19, x20, x21, x22, x23, x24, x25, x26, x27, x28, x29, x30, x31, x32, x33, x34, x35, x36, x37, x38, x39, x40, x41, x42, x43, x44, x45, x46, x47, x48, x49, x50, x51, x52, x53, x54, x55, x56, x57, x58, x59, x60, x61, x62, x63, x64, x65, x66, x67, x68, x69, x70, x71, x72, x73, x74, x75, x76, x77, x78, x79, x80, x81, x82, x83, x84, x85, x86, x87, x88, x89, x90, x91, x92, x93, x94, x95, x96, x97, x98, x99, x100, x101, x102, x103, x104, x105, x106, x107, x108, x109, x110, x111, x112, x113, x114, x115, x116, x117, x118, x119, x120, x121, x122, x123, x124, x125, x126, x127, x128, x129, x130, x131, x132, x133, x134, x135, x136, x137, x138, x139, x140, x141, x142, x143, x144, x145, x146, x147, x148, x149, x150, x151, x152, x153, x154, x155, x156, x157, x158, x159, x160, x161, x162, x163, x164, x165, x166, x167, x168, x169, x170, x171, x172, x173, x174, x175, x176, x177, x178, x179, x180, x181, x182, x183, x184, x185, x186, x187, x188, x189, x190, x191, x192, x193, x194, x195, x196, x197, x198, x199, x200, x201, x202, x203, x204, x205, x206, x207, x208, x209, x210, x211, x212, x213, x214, x215, x216, x217, x218, x219, x220, x221, x222, x223, x224, x225, x226, x227, x228, x229, x230, x231, x232, x233, x234, x235, x236, x237, x238, x239, x240, x241, x242, x243, x244, x245, x246, x247, x248, x249, x250, x251, x252, x253, x254, x255, x256, x257, x258, x259, x260, x261, x262, x263, x264, x265, x266, x267, x268, x269, x270, x271, x272, x273, x274, x275, x276], []⟩ ((X.alloc (.cells (h0Cells s) 87)).drewN q) := by
  have HE := Lib.hid hexit; clear hexit
  rw [← shiftF_start]
  dsimp only []
  conv => arg 2; whnf
  go_loopw [18] (fun i W => ∃ j : Nat, j ≤ 7 ∧ i = .int .i64 (j : Int) ∧ W = (X.alloc (.cells (eightC (shiftF s j)) 87)).drewN q) (fun i _ => (intOf i).toNat)
  case atStart => exact ⟨7, by omega, rfl, rfl⟩
  case round =>
    obtain ⟨j, hj, rfl, rfl⟩ := hrel
    by_cases hj0 : 0 < j
    · have hd : decide ((0 : Int) < (j : Int)) = true := by simp; omega
      obtain ⟨n1, hn1⟩ : ∃ n, j - 1 = n := ⟨_, rfl⟩
      have hr : shiftF s j n1 = s.get n1 := by unfold shiftF; rw [if_neg (by omega)]
      have d1 := arr_at X (eightC (shiftF s j)) 87 n1 _ (eightC_at _ n1 (by omega))
      rw [hr] at d1
      have dj := arr_at X (eightC (shiftF s j)) 87 j _ (eightC_at _ j (by omega))
      have hnx := shiftF_next s j hj0 hj
      rw [hn1] at hnx
      have w1 : IntKind.i64.wrap ((j : Int) - 1) = (n1 : Int) := by rw [IntKind.wrap_i64]; omega
      have e1 : (j : Int) - 1 = (n1 : Int) := by omega
      have b1 : (n1 : Int) < 8 := by omega
      have bj : (j : Int) < 8 := by omega
      have hm : n1 + 1 = j := by omega
      have hm7 : n1 ≤ 7 := by omega
      generalize shiftF s j = fj at *
      have HNX := Lib.hid hnx; have HM := Lib.hid hm; clear hnx hr hn1 hm
      go_wp2
      go_roundw
      case rel => exact ⟨n1, hm7, rfl, by rw [arr_store, HNX.out]⟩
      case measure => have := HM.out; simp [intOf]; omega
    · have hd : decide ((0 : Int) < (j : Int)) = false := by simp; omega
      obtain rfl : j = 0 := by omega
      go_wp2
      exact HE.out _ _ _ _ _ _ _ _ _ _ _
end Go.Proofs.YthbbeojhipcjiaaDoor
