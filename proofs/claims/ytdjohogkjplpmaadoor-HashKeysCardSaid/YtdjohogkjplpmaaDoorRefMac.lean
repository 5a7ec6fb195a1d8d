/- ref01.Mac. -/
import Derived.Test.YtdjohogkjplpmaaDoorRefSum
import Derived.Test.YtdjohogkjplpmaaDoorMac
namespace Go.Proofs.YtdjohogkjplpmaaDoor
open Go.RowKit

set_option maxRecDepth 100000 in
set_option maxHeartbeats 1000000 in
theorem refMac_any (key b : ByteArray) (hk : key.size ≤ 1000000) (hbs : b.size ≤ 1000000) (w : World) :
    Calls Tryd.prog 10 #[.string key, .string b] w fun e w' => e = .returned (.string ⟨(macL key.data.toList b.data.toList).toArray⟩) ∧ Below w.heap.size w w' := by
  obtain ⟨hz, hi⟩ := zero_of_info Tryd.zero64b
  rw [← bC_zero 64] at hz
  have HZ := Lib.hid hz; have HI := Lib.hid hi; clear hz hi
  go_enter Tryd.func10, Tryd.ntmps10
  by_cases h : 64 < key.size
  · have hd : decide ((64 : Int) < (key.size : Int)) = true := by simp; omega
    go_wp2_with fail
    refine (refSum_any key (by omega) _).mono ?_
    rintro e W0 ⟨rfl, hb0⟩
    have HKK : Hid ((ByteArray.mk (sumL key.data.toList).toArray).data.toList = keyL key.data.toList) := Lib.hid (by unfold keyL; rw [if_pos (show 64 < key.data.toList.length from h)])
    have HKS : Hid ((ByteArray.mk (sumL key.data.toList).toArray).size ≤ 64) := Lib.hid (by show (sumL _).length ≤ 64; rw [sumL_len]; omega)
    generalize ByteArray.mk (sumL key.data.toList).toArray = K1 at *
    dsimp only
    have hC0 : bC 64 K1.data.toList = bC 64 (padK key.data.toList) := (congrArg (bC 64) HKK.out).trans (bC_pad _)
    have h1 : ((W0.alloc (.cells (bC 64 []) 37)).alloc (.cells (bC 64 []) 37)).heap[W0.heap.size]? = some (.cells (bC 64 []) 37) := (Below.heap_alloc _ _ _ (by simp)).trans (heap_alloc_last W0 _)
    have h2 : ((W0.alloc (.cells (bC 64 []) 37)).alloc (.cells (bC 64 []) 37)).heap[W0.heap.size + 1]? = some (.cells (bC 64 []) 37) := by
      have := heap_alloc_last (W0.alloc (.cells (bC 64 []) 37)) (.cells (bC 64 []) 37)
      simpa using this
    have hbX : Below w.heap.size w ((W0.alloc (.cells (bC 64 []) 37)).alloc (.cells (bC 64 []) 37)) := (hb0.alloc hb0.size _).alloc (Nat.le_trans hb0.size (by simp)) _
    obtain ⟨hc1, hg1'⟩ := forall_and_l (fun ty => copy_heap ((W0.alloc (.cells (bC 64 []) 37)).alloc (.cells (bC 64 []) 37)) W0.heap.size 64 K1 HKS.out 37 ty h1)
    have h2' := (setCells_far (show W0.heap.size + 1 ≠ W0.heap.size by omega) (cells K1.data.toList) 0 ((W0.alloc (.cells (bC 64 []) 37)).alloc (.cells (bC 64 []) 37))).trans h2
    have hbX1 := below_setCells hbX hb0.size (cells K1.data.toList) 0
    generalize hW1 : ((W0.alloc (.cells (bC 64 []) 37)).alloc (.cells (bC 64 []) 37)).setCells W0.heap.size 0 (cells K1.data.toList) = W1 at *
    obtain ⟨hc2, hg2⟩ := forall_and_l (fun ty => copy_heap W1 (W0.heap.size + 1) 64 K1 HKS.out 37 ty h2')
    have hg1'' := (setCells_far (show W0.heap.size ≠ W0.heap.size + 1 by omega) (cells K1.data.toList) 0 W1).trans hg1'
    have hbX2 := below_setCells hbX1 (Nat.le_trans hb0.size (Nat.le_succ _)) (cells K1.data.toList) 0
    generalize hW2 : W1.setCells (W0.heap.size + 1) 0 (cells K1.data.toList) = X at *
    rw [hC0, ← xorI_zero 54 (padK key.data.toList)] at hg1''
    rw [hC0, ← xorI_zero 92 (padK key.data.toList)] at hg2
    have HG1 := Lib.hid hg1''; have HG2 := Lib.hid hg2; have HB0 := Lib.hid hb0; have HBX := Lib.hid hbX2
    clear h1 h2 hbX hg1' h2' hbX1 hW1 hW2 hC0 hg1'' hg2 hbX2
    go_wp2_with (with_reducible refine wpList_alloc_var 37 (.agg (bC 64 [])) HZ.out ?_)
    obtain ⟨b1, hb1e⟩ : ∃ b1, b1 = W0.heap.size := ⟨_, rfl⟩
    have hg1 : w.heap.size ≤ b1 := by rw [hb1e]; exact HB0.out.size
    have h1 := HG1.out
    have h2 := HG2.out
    rw [← hb1e] at h1 h2 ⊢
    have H1 := Lib.hid h1
    have H2 := Lib.hid h2
    have hbX := HBX.out
    clear h1 h2 hc1 hc2 HG1 HG2 hb1e
    have hpl := padK_len key.data.toList
    have hmac : macL key.data.toList b.data.toList = sumL (xorL 92 (padK key.data.toList) ++ sumL (xorL 54 (padK key.data.toList) ++ b.data.toList)) := rfl
    generalize padK key.data.toList = kp at *
    have HMAC := Lib.hid hmac; clear hmac
    go_loopw [7] (fun v W => ∃ i : Nat, i ≤ 64 ∧ v = .int .i64 (i : Int) ∧ W.heap[b1]? = some (.cells (bC 64 (xorI 54 kp i)) 37) ∧ W.heap[b1 + 1]? = some (.cells (bC 64 (xorI 92 kp i)) 37) ∧ Below w.heap.size w W) (fun v _ => 64 - (intOf v).toNat)
    case atStart => exact ⟨0, by omega, rfl, H1.out, H2.out, hbX⟩
    case round =>
      clear H1 H2 hbX
      obtain ⟨i, hi64, rfl, hh1, hh2, hbl⟩ := hrel
      by_cases hlt : i < 64
      · have hdi : decide ((i : Int) < 64) = true := by simp; omega
        have bi : (i : Int) < 64 := by omega
        have c1 : wr.cell? ⟨b1, i, none⟩ = some (.int .u8 (kp[i].toNat : Int)) := by
          rw [cell_of_heap hh1, bC_at 64 (xorI 54 kp i) i (by rw [xorI_len]; omega), xorI_at]
        have c2 : wr.cell? ⟨b1 + 1, i, none⟩ = some (.int .u8 (kp[i].toNat : Int)) := by
          rw [cell_of_heap hh2, bC_at 64 (xorI 92 kp i) i (by rw [xorI_len]; omega), xorI_at]
        have f1 : wr.frozen? ⟨b1, i, none⟩ = false := frozen_of_heap hh1
        have f2 : wr.frozen? ⟨b1 + 1, i, none⟩ = false := frozen_of_heap hh2
        have x1 : bits .xor .u8 (kp[i].toNat : Int) 54 = ((kp[i] ^^^ 54).toNat : Int) := xor8 kp[i] 54
        have x2 : bits .xor .u8 (kp[i].toNat : Int) 92 = ((kp[i] ^^^ 92).toNat : Int) := xor8 kp[i] 92
        have n1 := bC_set 64 (xorI 54 kp i) i (kp[i] ^^^ 54) (by rw [xorI_len]; omega)
        have n2 := bC_set 64 (xorI 92 kp i) i (kp[i] ^^^ 92) (by rw [xorI_len]; omega)
        rw [xorI_next 54 kp i (by omega)] at n1
        rw [xorI_next 92 kp i (by omega)] at n2
        generalize (kp[i] ^^^ 54).toNat = y1 at *
        generalize (kp[i] ^^^ 92).toNat = y2 at *
        generalize kp[i].toNat = kx at *
        have hne1 : b1 ≠ b1 + 1 := by omega
        have hne2 : b1 + 1 ≠ b1 := by omega
        have X1 := Lib.hid x1; have X2 := Lib.hid x2; have N1 := Lib.hid n1; have N2 := Lib.hid n2; have HH1 := Lib.hid hh1; have HH2 := Lib.hid hh2; have HPL := Lib.hid hpl
        clear x1 x2 n1 n2 hh1 hh2 hpl
        go_wp2
        have e1 : ((wr.setCell ⟨b1, i, none⟩ (.int .u8 (y1 : Int))).setCell ⟨b1 + 1, i, none⟩ (.int .u8 (y2 : Int))).heap[b1]? = some (.cells (bC 64 (xorI 54 kp (i + 1))) 37) := by
          rw [← N1.out]
          exact (Below.heap_setCell _ _ _ b1 (fun e => hne1 e)).trans (heap_set_cell HH1.out _)
        have e2 : ((wr.setCell ⟨b1, i, none⟩ (.int .u8 (y1 : Int))).setCell ⟨b1 + 1, i, none⟩ (.int .u8 (y2 : Int))).heap[b1 + 1]? = some (.cells (bC 64 (xorI 92 kp (i + 1))) 37) := by
          rw [← N2.out]
          exact heap_set_cell ((Below.heap_setCell _ _ _ (b1 + 1) (fun e => hne2 e)).trans HH2.out) _
        rw [X1.out, X2.out]
        exact ⟨⟨i + 1, by omega, by go_num, e1, e2, (hbl.setCell hg1 _).setCell (by show w.heap.size ≤ b1 + 1; omega) _⟩, by simp [intOf]; omega⟩
      · obtain rfl : i = 64 := by omega
        rw [xorI_all 54 kp 64 hpl] at hh1
        rw [xorI_all 92 kp 64 hpl] at hh2
        rw [show ((64 : Nat) : Int) = 64 from rfl]
        have hl1 : b1 < wr.heap.size := (Array.getElem?_eq_some_iff.1 hh1).1
        have hl2 : b1 + 1 < wr.heap.size := (Array.getElem?_eq_some_iff.1 hh2).1
        have hx1 : (xorL 54 kp).length = 64 := by unfold xorL; rw [List.length_map, hpl]
        have hx2 : (xorL 92 kp).length = 64 := by unfold xorL; rw [List.length_map, hpl]
        have hS : ∀ W, Below wr.heap.size wr W → (convert 27 9 (.slice (some ⟨b1 + 1, 0, none⟩) 64 64)).run Tryd.prog W = .ok (.string ⟨(xorL 92 kp).toArray⟩) W ∧ (convert 27 9 (.slice (some ⟨b1, 0, none⟩) 64 64)).run Tryd.prog W = .ok (.string ⟨(xorL 54 kp).toArray⟩) W := fun W h =>
          ⟨conv_heap W (b1 + 1) 64 64 _ _ ((h.block _ hl2).trans hh2) hx2.symm, conv_heap W b1 64 64 _ _ ((h.block _ hl1).trans hh1) hx1.symm⟩
        obtain ⟨I, hI⟩ : ∃ I : ByteArray, I = ⟨(xorL 54 kp).toArray⟩ := ⟨_, rfl⟩
        obtain ⟨O, hO⟩ : ∃ O : ByteArray, O = ⟨(xorL 92 kp).toArray⟩ := ⟨_, rfl⟩
        have hIl : I.data.toList = xorL 54 kp := by rw [hI]
        have hOl : O.data.toList = xorL 92 kp := by rw [hO]
        rw [← hI, ← hO] at hS
        have hIs : I.size = 64 := by rw [← hx1, ← hIl]; rfl
        have hOs : O.size = 64 := by rw [← hx2, ← hOl]; rfl
        obtain ⟨D, hD⟩ : ∃ D : ByteArray, D = ⟨(sumL (I ++ b).data.toList).toArray⟩ := ⟨_, rfl⟩
        have hDl : D.data.toList = sumL (I ++ b).data.toList := by rw [hD]
        have hDs : D.size = 32 := by rw [hD]; rfl
        have hs1 : (I ++ b).size ≤ 1048576 := by rw [ByteArray.size_append]; omega
        have hs2 : (O ++ D).size ≤ 1048576 := by rw [ByteArray.size_append]; omega
        have e1 : ∀ W, (Op.stringOp .add I b).run Tryd.prog W = .ok (.string (I ++ b)) W := fun W => run_string_add_sum W _ _ (by omega)
        have e2 : ∀ W, (Op.stringOp .add O D).run Tryd.prog W = .ok (.string (O ++ D)) W := fun W => run_string_add_sum W _ _ (by omega)
        have hfin : sumL (O ++ D).data.toList = macL key.data.toList b.data.toList := by
          rw [HMAC.out, ByteArray.data_append, Array.toList_append, hOl, hDl, ByteArray.data_append, Array.toList_append, hIl]
        have HFIN := Lib.hid hfin; have HS1 := Lib.hid hs1; have HS2 := Lib.hid hs2; have HD := Lib.hid hD; have HSS := Lib.hid hS
        have hc0 := hS wr (Below.refl _ _)
        have hc1 := hS wr.drew (Below.refl _ _).drew
        clear hfin hs1 hs2 hD hS hI hO hIl hOl hIs hOs hDl hDs hh1 hh2 hx1 hx2 hpl
        go_wp2_with fail
        go_region_held3 (fun W => (convert 27 9 (.slice (some ⟨b1 + 1, 0, none⟩) 64 64)).run Tryd.prog W = .ok (.string O) W ∧ (convert 27 9 (.slice (some ⟨b1, 0, none⟩) 64 64)).run Tryd.prog W = .ok (.string I) W)
          (first | exact hc0 | exact hc1 | exact HSS.out _ ((below_drew2 _ _ hb2).chain hb3) | exact HSS.out _ (below_drew2 _ _ hb2))
          (first
            | (go_at_call 8; with_reducible refine (refSum_any (I ++ b) HS1.out _).mono ?_; rw [← HD.out]; rintro e w2 ⟨rfl, hb2⟩)
            | (go_at_call 8; with_reducible refine (refSum_any (O ++ D) HS2.out _).mono ?_; rw [HFIN.out]; rintro e w3 ⟨rfl, hb3⟩))
        go_wp2
        go_ret
        exact ⟨rfl, hbl.trans (((below_drew2 _ _ hb2).chain hb3).mono hbl.size)⟩
  · have hd : decide ((64 : Int) < (key.size : Int)) = false := by simp; omega
    have HKK : Hid (key.data.toList = keyL key.data.toList) := Lib.hid (by unfold keyL; rw [if_neg (show ¬ 64 < key.data.toList.length from h)])
    have HKS : Hid (key.size ≤ 64) := Lib.hid (by omega)
    have hb0 := Below.refl w.heap.size w
    have hC0 : bC 64 key.data.toList = bC 64 (padK key.data.toList) := (congrArg (bC 64) HKK.out).trans (bC_pad _)
    have h1 : ((w.alloc (.cells (bC 64 []) 37)).alloc (.cells (bC 64 []) 37)).heap[w.heap.size]? = some (.cells (bC 64 []) 37) := (Below.heap_alloc _ _ _ (by simp)).trans (heap_alloc_last w _)
    have h2 : ((w.alloc (.cells (bC 64 []) 37)).alloc (.cells (bC 64 []) 37)).heap[w.heap.size + 1]? = some (.cells (bC 64 []) 37) := by
      have := heap_alloc_last (w.alloc (.cells (bC 64 []) 37)) (.cells (bC 64 []) 37)
      simpa using this
    have hbX : Below w.heap.size w ((w.alloc (.cells (bC 64 []) 37)).alloc (.cells (bC 64 []) 37)) := (hb0.alloc hb0.size _).alloc (Nat.le_trans hb0.size (by simp)) _
    obtain ⟨hc1, hg1'⟩ := forall_and_l (fun ty => copy_heap ((w.alloc (.cells (bC 64 []) 37)).alloc (.cells (bC 64 []) 37)) w.heap.size 64 key HKS.out 37 ty h1)
    have h2' := (setCells_far (show w.heap.size + 1 ≠ w.heap.size by omega) (cells key.data.toList) 0 ((w.alloc (.cells (bC 64 []) 37)).alloc (.cells (bC 64 []) 37))).trans h2
    have hbX1 := below_setCells hbX hb0.size (cells key.data.toList) 0
    generalize hW1 : ((w.alloc (.cells (bC 64 []) 37)).alloc (.cells (bC 64 []) 37)).setCells w.heap.size 0 (cells key.data.toList) = W1 at *
    obtain ⟨hc2, hg2⟩ := forall_and_l (fun ty => copy_heap W1 (w.heap.size + 1) 64 key HKS.out 37 ty h2')
    have hg1'' := (setCells_far (show w.heap.size ≠ w.heap.size + 1 by omega) (cells key.data.toList) 0 W1).trans hg1'
    have hbX2 := below_setCells hbX1 (Nat.le_trans hb0.size (Nat.le_succ _)) (cells key.data.toList) 0
    generalize hW2 : W1.setCells (w.heap.size + 1) 0 (cells key.data.toList) = X at *
    rw [hC0, ← xorI_zero 54 (padK key.data.toList)] at hg1''
    rw [hC0, ← xorI_zero 92 (padK key.data.toList)] at hg2
    have HG1 := Lib.hid hg1''; have HG2 := Lib.hid hg2; have HB0 := Lib.hid hb0; have HBX := Lib.hid hbX2
    clear h1 h2 hbX hg1' h2' hbX1 hW1 hW2 hC0 hg1'' hg2 hbX2
    go_wp2_with (with_reducible refine wpList_alloc_var 37 (.agg (bC 64 [])) HZ.out ?_)
    obtain ⟨b1, hb1e⟩ : ∃ b1, b1 = w.heap.size := ⟨_, rfl⟩
    have hg1 : w.heap.size ≤ b1 := by rw [hb1e]; exact HB0.out.size
    have h1 := HG1.out
    have h2 := HG2.out
    rw [← hb1e] at h1 h2 ⊢
    have H1 := Lib.hid h1
    have H2 := Lib.hid h2
    have hbX := HBX.out
    clear h1 h2 hc1 hc2 HG1 HG2 hb1e
    have hpl := padK_len key.data.toList
    have hmac : macL key.data.toList b.data.toList = sumL (xorL 92 (padK key.data.toList) ++ sumL (xorL 54 (padK key.data.toList) ++ b.data.toList)) := rfl
    generalize padK key.data.toList = kp at *
    have HMAC := Lib.hid hmac; clear hmac
    go_loopw [7] (fun v W => ∃ i : Nat, i ≤ 64 ∧ v = .int .i64 (i : Int) ∧ W.heap[b1]? = some (.cells (bC 64 (xorI 54 kp i)) 37) ∧ W.heap[b1 + 1]? = some (.cells (bC 64 (xorI 92 kp i)) 37) ∧ Below w.heap.size w W) (fun v _ => 64 - (intOf v).toNat)
    case atStart => exact ⟨0, by omega, rfl, H1.out, H2.out, hbX⟩
    case round =>
      clear H1 H2 hbX
      obtain ⟨i, hi64, rfl, hh1, hh2, hbl⟩ := hrel
      by_cases hlt : i < 64
      · have hdi : decide ((i : Int) < 64) = true := by simp; omega
        have bi : (i : Int) < 64 := by omega
        have c1 : wr.cell? ⟨b1, i, none⟩ = some (.int .u8 (kp[i].toNat : Int)) := by
          rw [cell_of_heap hh1, bC_at 64 (xorI 54 kp i) i (by rw [xorI_len]; omega), xorI_at]
        have c2 : wr.cell? ⟨b1 + 1, i, none⟩ = some (.int .u8 (kp[i].toNat : Int)) := by
          rw [cell_of_heap hh2, bC_at 64 (xorI 92 kp i) i (by rw [xorI_len]; omega), xorI_at]
        have f1 : wr.frozen? ⟨b1, i, none⟩ = false := frozen_of_heap hh1
        have f2 : wr.frozen? ⟨b1 + 1, i, none⟩ = false := frozen_of_heap hh2
        have x1 : bits .xor .u8 (kp[i].toNat : Int) 54 = ((kp[i] ^^^ 54).toNat : Int) := xor8 kp[i] 54
        have x2 : bits .xor .u8 (kp[i].toNat : Int) 92 = ((kp[i] ^^^ 92).toNat : Int) := xor8 kp[i] 92
        have n1 := bC_set 64 (xorI 54 kp i) i (kp[i] ^^^ 54) (by rw [xorI_len]; omega)
        have n2 := bC_set 64 (xorI 92 kp i) i (kp[i] ^^^ 92) (by rw [xorI_len]; omega)
        rw [xorI_next 54 kp i (by omega)] at n1
        rw [xorI_next 92 kp i (by omega)] at n2
        generalize (kp[i] ^^^ 54).toNat = y1 at *
        generalize (kp[i] ^^^ 92).toNat = y2 at *
        generalize kp[i].toNat = kx at *
        have hne1 : b1 ≠ b1 + 1 := by omega
        have hne2 : b1 + 1 ≠ b1 := by omega
        have X1 := Lib.hid x1; have X2 := Lib.hid x2; have N1 := Lib.hid n1; have N2 := Lib.hid n2; have HH1 := Lib.hid hh1; have HH2 := Lib.hid hh2; have HPL := Lib.hid hpl
        clear x1 x2 n1 n2 hh1 hh2 hpl
        go_wp2
        have e1 : ((wr.setCell ⟨b1, i, none⟩ (.int .u8 (y1 : Int))).setCell ⟨b1 + 1, i, none⟩ (.int .u8 (y2 : Int))).heap[b1]? = some (.cells (bC 64 (xorI 54 kp (i + 1))) 37) := by
          rw [← N1.out]
          exact (Below.heap_setCell _ _ _ b1 (fun e => hne1 e)).trans (heap_set_cell HH1.out _)
        have e2 : ((wr.setCell ⟨b1, i, none⟩ (.int .u8 (y1 : Int))).setCell ⟨b1 + 1, i, none⟩ (.int .u8 (y2 : Int))).heap[b1 + 1]? = some (.cells (bC 64 (xorI 92 kp (i + 1))) 37) := by
          rw [← N2.out]
          exact heap_set_cell ((Below.heap_setCell _ _ _ (b1 + 1) (fun e => hne2 e)).trans HH2.out) _
        rw [X1.out, X2.out]
        exact ⟨⟨i + 1, by omega, by go_num, e1, e2, (hbl.setCell hg1 _).setCell (by show w.heap.size ≤ b1 + 1; omega) _⟩, by simp [intOf]; omega⟩
      · obtain rfl : i = 64 := by omega
        rw [xorI_all 54 kp 64 hpl] at hh1
        rw [xorI_all 92 kp 64 hpl] at hh2
        rw [show ((64 : Nat) : Int) = 64 from rfl]
        have hl1 : b1 < wr.heap.size := (Array.getElem?_eq_some_iff.1 hh1).1
        have hl2 : b1 + 1 < wr.heap.size := (Array.getElem?_eq_some_iff.1 hh2).1
        have hx1 : (xorL 54 kp).length = 64 := by unfold xorL; rw [List.length_map, hpl]
        have hx2 : (xorL 92 kp).length = 64 := by unfold xorL; rw [List.length_map, hpl]
        have hS : ∀ W, Below wr.heap.size wr W → (convert 27 9 (.slice (some ⟨b1 + 1, 0, none⟩) 64 64)).run Tryd.prog W = .ok (.string ⟨(xorL 92 kp).toArray⟩) W ∧ (convert 27 9 (.slice (some ⟨b1, 0, none⟩) 64 64)).run Tryd.prog W = .ok (.string ⟨(xorL 54 kp).toArray⟩) W := fun W h =>
          ⟨conv_heap W (b1 + 1) 64 64 _ _ ((h.block _ hl2).trans hh2) hx2.symm, conv_heap W b1 64 64 _ _ ((h.block _ hl1).trans hh1) hx1.symm⟩
        obtain ⟨I, hI⟩ : ∃ I : ByteArray, I = ⟨(xorL 54 kp).toArray⟩ := ⟨_, rfl⟩
        obtain ⟨O, hO⟩ : ∃ O : ByteArray, O = ⟨(xorL 92 kp).toArray⟩ := ⟨_, rfl⟩
        have hIl : I.data.toList = xorL 54 kp := by rw [hI]
        have hOl : O.data.toList = xorL 92 kp := by rw [hO]
        rw [← hI, ← hO] at hS
        have hIs : I.size = 64 := by rw [← hx1, ← hIl]; rfl
        have hOs : O.size = 64 := by rw [← hx2, ← hOl]; rfl
        obtain ⟨D, hD⟩ : ∃ D : ByteArray, D = ⟨(sumL (I ++ b).data.toList).toArray⟩ := ⟨_, rfl⟩
        have hDl : D.data.toList = sumL (I ++ b).data.toList := by rw [hD]
        have hDs : D.size = 32 := by rw [hD]; rfl
        have hs1 : (I ++ b).size ≤ 1048576 := by rw [ByteArray.size_append]; omega
        have hs2 : (O ++ D).size ≤ 1048576 := by rw [ByteArray.size_append]; omega
        have e1 : ∀ W, (Op.stringOp .add I b).run Tryd.prog W = .ok (.string (I ++ b)) W := fun W => run_string_add_sum W _ _ (by omega)
        have e2 : ∀ W, (Op.stringOp .add O D).run Tryd.prog W = .ok (.string (O ++ D)) W := fun W => run_string_add_sum W _ _ (by omega)
        have hfin : sumL (O ++ D).data.toList = macL key.data.toList b.data.toList := by
          rw [HMAC.out, ByteArray.data_append, Array.toList_append, hOl, hDl, ByteArray.data_append, Array.toList_append, hIl]
        have HFIN := Lib.hid hfin; have HS1 := Lib.hid hs1; have HS2 := Lib.hid hs2; have HD := Lib.hid hD; have HSS := Lib.hid hS
        have hc0 := hS wr (Below.refl _ _)
        have hc1 := hS wr.drew (Below.refl _ _).drew
        clear hfin hs1 hs2 hD hS hI hO hIl hOl hIs hOs hDl hDs hh1 hh2 hx1 hx2 hpl
        go_wp2_with fail
        go_region_held3 (fun W => (convert 27 9 (.slice (some ⟨b1 + 1, 0, none⟩) 64 64)).run Tryd.prog W = .ok (.string O) W ∧ (convert 27 9 (.slice (some ⟨b1, 0, none⟩) 64 64)).run Tryd.prog W = .ok (.string I) W)
          (first | exact hc0 | exact hc1 | exact HSS.out _ ((below_drew2 _ _ hb2).chain hb3) | exact HSS.out _ (below_drew2 _ _ hb2))
          (first
            | (go_at_call 8; with_reducible refine (refSum_any (I ++ b) HS1.out _).mono ?_; rw [← HD.out]; rintro e w2 ⟨rfl, hb2⟩)
            | (go_at_call 8; with_reducible refine (refSum_any (O ++ D) HS2.out _).mono ?_; rw [HFIN.out]; rintro e w3 ⟨rfl, hb3⟩))
        go_wp2
        go_ret
        exact ⟨rfl, hbl.trans (((below_drew2 _ _ hb2).chain hb3).mono hbl.size)⟩
end Go.Proofs.YtdjohogkjplpmaaDoor
