/- The reference's Sum. -/
import Derived.Test.YtdflghphjhejdaaDoorSum5
import Derived.Test.YtdflghphjhejdaaDoorSum7
import Derived.Test.YtdflghphjhejdaaDoorSum8
namespace Go.Proofs.YtdflghphjhejdaaDoor
open Go.RowKit

set_option maxRecDepth 100000 in
set_option maxHeartbeats 2000000 in
theorem refSum_any (s : ByteArray) (hs : s.size ≤ 1048576) (w : World) :
    Calls Tryd.prog 16 #[.string s] w fun e w' => e = .returned (.string ⟨(sumL s.data.toList).toArray⟩) ∧ Below w.heap.size w w' := by
  obtain ⟨hz, hi⟩ := zero_of_info Tryd.zero64
  go_enter Tryd.func16, Tryd.ntmps16
  refine wp_seq_k fun K hK => ?_
  refine wp_region_lit (wpList_plain rfl fun K1 hK1 => hK1 _ _ (wpList_nil (hK _ _ ?_)))
  clear hK hK1 K K1
  refine wp_seq_k fun K hK => ?_
  refine wp_region_lit (wpList_plain rfl fun K1 hK1 => wp_build_is 45 _ kCells rfl (by kernel_rfl) (hK1 _ _ ?_))
  refine wpList_plain rfl fun K2 hK2 => wp_alloc_var 45 _ rfl hz (hK2 _ _ ?_)
  refine wpList_plain rfl fun K3 hK3 => wp_store_new 45 (.tmp 3) (.tmp 22) _ kCells rfl rfl rfl (by kernel_rfl) (by kernel_rfl) kCells_one (hK3 _ _ (wpList_nil (hK _ _ ?_)))
  have HZ := Lib.hid hz
  clear hK hK1 hK2 hK3 K K1 K2 K3 hz hi
  have hsz : kCells.size = 64 := kCells_size
  have hkat := kCells_at
  generalize kCells = KA at *
  have HKA := Lib.hid hkat; clear hkat
  go_wp2_with (at_builtin; fail)
  have hX1 : ((w.alloc (.cells KA 45)).alloc (.cells (h0Cells h0) 46)).heap[w.heap.size]? = some (.cells KA 45) := (Below.heap_alloc _ _ _ (by simp)).trans (heap_alloc_last w _)
  have hX2 : ((w.alloc (.cells KA 45)).alloc (.cells (h0Cells h0) 46)).heap[w.heap.size + 1]? = some (.cells (h0Cells h0) 46) := by
    have := heap_alloc_last (w.alloc (.cells KA 45)) (.cells (h0Cells h0) 46)
    simpa using this
  have hXs : ((w.alloc (.cells KA 45)).alloc (.cells (h0Cells h0) 46)).heap.size = w.heap.size + 2 := by simp
  have hXb : Below w.heap.size w ((w.alloc (.cells KA 45)).alloc (.cells (h0Cells h0) 46)) := ((Below.refl _ _).alloc (Nat.le_refl _) _).alloc (by simp) _
  have hXe : ((w.alloc (.cells KA 45)).alloc (.cells #[.int .u32 1779033703, .int .u32 3144134277, .int .u32 1013904242, .int .u32 2773480762, .int .u32 1359893119, .int .u32 2600822924, .int .u32 528734635, .int .u32 1541459225] 46)) = ((w.alloc (.cells KA 45)).alloc (.cells (h0Cells h0) 46)) := rfl
  rw [hXe]
  clear hXe
  generalize ((w.alloc (.cells KA 45)).alloc (.cells (h0Cells h0) 46)) = X at *
  obtain ⟨W, v0, g0, cap0, hcv, hm0, hbW, hg0⟩ := conv_mbuf X X.heap.size (Nat.le_refl _) s (by unfold maxLen; omega)
  rw [hcv]
  simp only [Result.andThen_ok]
  rw [Oper.upon_value]
  have hsl : s.data.toList.length = s.size := rfl
  have HXS := Lib.hid hXs; clear hXs
  have hm1 := hm0.alloc (.cells #[.int .u8 128] 5)
  have hb1 := hbW.alloc hbW.size (.cells #[.int .u8 128] 5)
  have HM1 := Lib.hid hm1; have HB1 := Lib.hid hb1; clear hm1 hb1
  go_wp2_with (at_builtin; refine wpList_append_mbuf _ rfl (.tmp 25) (.tmp 26) rfl rfl HM1.out HB1.out.size (by omega) ⟨W.heap.size, 0, none⟩ 1 128 rfl (new_cells W #[_] _ 0 _ rfl) ?_)
  intro v1 w1 g1 cap1 hm1 hgr1
  have hb1 := grown_below HB1.out HB1.out.size hgr1 hg0
  clear HM1 HB1 hgr1 hcv hm0 hbW hg0
  go_wp2
  go_loopw [5] (fun v wr => ∃ z g cap, z ≤ zerosN s.size ∧ MBuf wr X.heap.size v (s.data.toList ++ [128] ++ List.replicate z 0) g cap ∧ Below X.heap.size X wr) (fun v _ => zerosN s.size + s.size + 1 - vlen v)
  case atStart => exact ⟨0, g1, cap1, Nat.zero_le _, by simpa using hm1, hb1⟩
  case round =>
    obtain ⟨z, g, cap, hz, hm, hb⟩ := hrel
    have hbs := hb.size
    have hlen : (s.data.toList ++ [128] ++ List.replicate z 0).length = s.size + 1 + z := by simp; omega
    have hval := hm.val
    rw [hlen] at hval
    subst hval
    have hlz : s.size + 1 + z + 1 ≤ 140737488355328 := by unfold zerosN at hz; omega
    have hbg := hm.base
    by_cases hlt : z < zerosN s.size
    · have hmod : (((s.size : Int) + 1 + (z : Int)) % 64 != 56) = true := by
        unfold zerosN at hlt
        simp; omega
      have hm2 := hm.alloc (.cells #[.int .u8 0] 5)
      have hb2 := hb.alloc hbs (.cells #[.int .u8 0] 5)
      have HM2 := Lib.hid hm2; have HB2 := Lib.hid hb2; have HLEN := Lib.hid hlen; clear hm2 hb2 hlen hm
      go_wp2_with (at_builtin; refine wpList_append_mbuf _ rfl (.tmp 32) (.tmp 33) rfl rfl HM2.out HB2.out.size (by rw [HLEN.out]; omega) ⟨wr.heap.size, 0, none⟩ 1 0 rfl (new_cells wr #[_] _ 0 _ rfl) ?_)
      intro v3 w3 g3 cap3 hm3 hgr3
      have hb3 := grown_below HB2.out HB2.out.size hgr3 hbg
      have hm3' : MBuf w3 X.heap.size v3 (s.data.toList ++ [128] ++ List.replicate (z + 1) 0) g3 cap3 := by simpa [List.replicate_succ'] using hm3
      have hl3 : vlen v3 = s.size + 1 + (z + 1) := by rw [vlen_mbuf hm3']; simp; omega
      have HM3 := Lib.hid hm3'; clear hm3 hm3'
      go_wp2
      go_roundw
      case rel => exact ⟨z + 1, g3, cap3, by omega, HM3.out, hb3⟩
      case measure => rw [show vlen _ = s.size + 1 + (z + 1) from hl3]; simp [vlen]; omega
    · have hmod : (((s.size : Int) + 1 + (z : Int)) % 64 != 56) = false := by
        unfold zerosN at hlt hz
        simp; omega
      have hze : z = zerosN s.size := by omega
      subst hze
      have HLEN := Lib.hid hlen
      generalize hP : s.data.toList ++ [128] ++ List.replicate (zerosN s.size) 0 = P0 at *
      clear hlen hlz hz hlt
      have hPl : P0.length ≤ 1048704 := by
        rw [HLEN.out]; unfold zerosN; omega
      have hv1 : Value.slice (some ⟨g, 0, none⟩) (s.size + 1 + zerosN s.size) cap = .slice (some ⟨g, 0, none⟩) P0.length cap := by rw [HLEN.out]
      rw [hv1] at hm ⊢
      have hmod2 : ((P0.length : Int) % 64 != 56) = false := by rw [HLEN.out]; simpa using hmod
      have HP0 := Lib.hid hP
      clear hmod hv1 hP
      go_wp2
      go_loopw [5, 7] (fun v i wr => ∃ (c g cap : Nat), c ≤ 8 ∧ i = .int .i64 (7 - (c : Int)) ∧ MBuf wr X.heap.size v (P0 ++ (lenL s.size).take c) g cap ∧ Below X.heap.size X wr) (fun _ i _ => (intOf i + 1).toNat)
      case atStart => exact ⟨0, g, cap, by omega, rfl, by simpa using hm, hb⟩
      case round =>
        obtain ⟨c, g, cap, hc, rfl, hm, hb⟩ := hrel
        have hbs := hb.size
        by_cases hlt : c < 8
        · have hge : decide ((0 : Int) ≤ 7 - (c : Int)) = true := by simp; omega
          have e1 : wrap64 (8 * (7 - (c : Int))) = 8 * (7 - (c : Int)) := IntWalk.wrap64_in _ ⟨by omega, by omega⟩
          have e2 : IntKind.u64.wrap (8 * (7 - (c : Int))) = 8 * (7 - (c : Int)) := by rw [IntKind.wrap_u64]; omega
          have e3 : min (8 * (7 - (c : Int))).toNat 64 = 8 * (7 - c) := by omega
          have hby := len_byte s.size c
          have hnx := lenL_next s.size c hlt
          have hll : (P0 ++ (lenL s.size).take c).length ≤ 1048712 := by
            rw [List.length_append, List.length_take]; omega
          have hval := hm.val
          have hbg := hm.base
          generalize UInt8.ofNat (8 * s.size / 256 ^ (7 - c)) = b at *
          have HBY := Lib.hid hby; have HNX := Lib.hid hnx; have HLL := Lib.hid hll; clear hby hnx hll
          subst hval
          go_wp2_with (at_builtin; refine wpList_append_mbuf _ rfl (.tmp 43) (.tmp 50) rfl rfl (hm.alloc _) (hb.alloc hbs _).size (by have := HLL.out; omega) ⟨wr.heap.size, 0, none⟩ 1 b rfl ((new_cells wr #[_] _ 0 _ rfl).trans (by rw [HBY.out])) ?_)
          intro v3 w3 g3 cap3 hm3 hgr3
          have hb3 := grown_below (hb.alloc hbs _) (hb.alloc hbs _).size hgr3 hbg
          have hm3' : MBuf w3 X.heap.size v3 (P0 ++ (lenL s.size).take (c + 1)) g3 cap3 := by rw [HNX.out]; exact hm3
          have HM3 := Lib.hid hm3'; clear hm3 hm3' hm hb
          go_wp2
          go_roundw
          case rel => exact ⟨c + 1, g3, cap3, by omega, by go_num, HM3.out, hb3⟩
          case measure => simp [intOf]; omega
        · have hce : c = 8 := by omega
          subst hce
          have e8 : (7 : Int) - ((8 : Nat) : Int) = -1 := rfl
          rw [e8]
          clear e8
          have h8 : (lenL s.size).take 8 = lenL s.size := List.take_of_length_le (by simp [lenL])
          rw [h8] at hm
          have hval := hm.val
          subst hval
          have hK : wr.heap[w.heap.size]? = some (.cells KA 45) := (hb.block _ (by rw [HXS.out]; omega)).trans hX1
          have hH : wr.heap[w.heap.size + 1]? = some (.cells (h0Cells h0) 46) := (hb.block _ (by rw [HXS.out]; omega)).trans hX2
          have hbw : Below w.heap.size w wr := hXb.trans (hb.mono hXb.size)
          have hMlen : (P0 ++ lenL s.size).length ≤ 1048712 := by
            have h' : (lenL s.size).length = 8 := rfl
            rw [List.length_append, h']; omega
          have hM64 : (P0 ++ lenL s.size).length % 64 = 0 := by
            have h : ((P0.length : Int) % 64) = 56 := by simpa using hmod2
            have h' : (lenL s.size).length = 8 := rfl
            rw [List.length_append, h']; omega
          have hcl := hm.cell
          have hgl := hm.lt
          have hgb := hm.base
          rw [HXS.out] at hgb
          generalize hMM : P0 ++ lenL s.size = M at *
          have hK' := Lib.hid hK; have hH' := Lib.hid hH; have HCL := Lib.hid hcl; have HBW := Lib.hid hbw; have HM := Lib.hid hMM
          clear hK hH hcl hbw hMM hm hb hbs hX1 hX2 hXb hm1 hb1
          go_wp2
          generalize hwr0 : wr = wr0 at *
          clear hwr0
          go_loopw [8] (fun i wr => ∃ j : Nat, 64 * j ≤ M.length ∧ i = .int .i64 ((64 * j : Nat) : Int) ∧ wr.heap[w.heap.size]? = some (.cells KA 45) ∧ wr.heap[w.heap.size + 1]? = some (.cells (h0Cells (blocksW M j)) 46) ∧
            (∀ j (hj : j < M.length), wr.cell? ⟨g, j, none⟩ = some (.int .u8 (M[j].toNat : Int))) ∧ g < wr.heap.size ∧ Below w.heap.size w wr) (fun i _ => M.length - (intOf i).toNat)
          case atStart => exact ⟨0, Nat.zero_le _, rfl, hK'.out, hH'.out, HCL.out, hgl, HBW.out⟩
          case round =>
            obtain ⟨j, hj, rfl, hK, hH, hcl, hgl, hbw⟩ := hrel
            by_cases hlt : 64 * j < M.length
            · have hlt' : decide (((64 * j : Nat) : Int) < (M.length : Int)) = true := by simp; omega
              generalize hp : 64 * j = p at *
              have hZ : ∀ w, (zeroValue 45).run Tryd.prog w = .ok (.agg (wC M p 0)) w := by rw [wC_zero]; exact HZ.out
              have HZ2 := Lib.hid hZ; clear hZ
              have hpM : p + 64 ≤ M.length := by omega
              have hb0 : blocksW M (j + 1) = blockW M p (blocksW M j) := by rw [← hp]; rfl
              generalize blocksW M j = hv at *
              have HB := Lib.hid hb0; have HP := Lib.hid hp; have HC2 := Lib.hid hcl; have HK := Lib.hid hK; have HH := Lib.hid hH; have HBW2 := Lib.hid hbw
              clear hb0 hp hcl hK hH hbw
              go_wp2_with (with_reducible refine wpList_alloc_var 45 (.agg (wC M p 0)) HZ2.out ?_)
              refine refSched_loop M p _ _ wr _ hpM hMlen HC2.out hgl ?_
              intros
              rename_i q
              have hsz2 : wr.heap.size = wr.heap.size := rfl
              have hwl : w.heap.size + 1 < wr.heap.size := (Array.getElem?_eq_some_iff.1 HH.out).1
              have hK2 : ∀ i, i < 64 → ((wr.alloc (.cells (wC M p 64) 45)).drewN q).cell? ⟨w.heap.size, i, none⟩ = some (.int .u32 ((kAt i).toNat : Int)) := fun i hi =>
                (old_at wr _ w.heap.size i (by omega)).trans ((cell_of_heap HK.out i).trans (HKA.out i hi))
              have hW2 : ∀ i, i < 64 → ((wr.alloc (.cells (wC M p 64) 45)).drewN q).cell? ⟨wr.heap.size, i, none⟩ = some (.int .u32 ((schedW M p i).toNat : Int)) := fun i hi =>
                arr_at wr _ _ i _ (wC_at M p 64 i hi)
              have hB2 : Below wr.heap.size wr ((wr.alloc (.cells (wC M p 64) 45)).drewN q) := belowDrewN ((Below.refl _ _).alloc (Nat.le_refl _) _) q
              have hs2 : ((wr.alloc (.cells (wC M p 64) 45)).drewN q).heap.size = wr.heap.size + 1 := by simp
              generalize (wr.alloc (.cells (wC M p 64) 45)).drewN q = X2 at *
              have hH2 : X2.heap[w.heap.size + 1]? = some (.cells (h0Cells hv) 46) := (hB2.block _ hwl).trans HH.out
              obtain ⟨va, vb, vc, vd, ve, vf, vg, vh⟩ := hv
              have c0 : X2.cell? ⟨w.heap.size + 1, 0, none⟩ = some (.int .u32 (va.toNat : Int)) := cell_of_heap hH2 0
              have c1 : X2.cell? ⟨w.heap.size + 1, 1, none⟩ = some (.int .u32 (vb.toNat : Int)) := cell_of_heap hH2 1
              have c2 : X2.cell? ⟨w.heap.size + 1, 2, none⟩ = some (.int .u32 (vc.toNat : Int)) := cell_of_heap hH2 2
              have c3 : X2.cell? ⟨w.heap.size + 1, 3, none⟩ = some (.int .u32 (vd.toNat : Int)) := cell_of_heap hH2 3
              have c4 : X2.cell? ⟨w.heap.size + 1, 4, none⟩ = some (.int .u32 (ve.toNat : Int)) := cell_of_heap hH2 4
              have c5 : X2.cell? ⟨w.heap.size + 1, 5, none⟩ = some (.int .u32 (vf.toNat : Int)) := cell_of_heap hH2 5
              have c6 : X2.cell? ⟨w.heap.size + 1, 6, none⟩ = some (.int .u32 (vg.toNat : Int)) := cell_of_heap hH2 6
              have c7 : X2.cell? ⟨w.heap.size + 1, 7, none⟩ = some (.int .u32 (vh.toNat : Int)) := cell_of_heap hH2 7
              have HK2 := Lib.hid hK2; have HW2 := Lib.hid hW2; have HB2 := Lib.hid hB2; have HS2 := Lib.hid hs2; have HH2 := Lib.hid hH2
              clear hK2 hW2 hB2 hs2 hH2 hsz2
              go_wp2
              clear c0 c1 c2 c3 c4 c5 c6 c7
              refine refRounds_loop X2 M p ⟨va, vb, vc, vd, ve, vf, vg, vh⟩ w.heap.size wr.heap.size _ (by rw [HS2.out]; omega) (by rw [HS2.out]; omega) HK2.out HW2.out ?_
              intros
              rename_i q3
              have hwl2 : w.heap.size + 1 < X2.heap.size := by rw [HS2.out]; omega
              have hB3 : Below X2.heap.size X2 ((X2.alloc (.cells (h0Cells (roundsW M p ⟨va, vb, vc, vd, ve, vf, vg, vh⟩ 64)) 46)).drewN q3) := belowDrewN ((Below.refl _ _).alloc (Nat.le_refl _) _) q3
              have hS3 : ((X2.alloc (.cells (h0Cells (roundsW M p ⟨va, vb, vc, vd, ve, vf, vg, vh⟩ 64)) 46)).drewN q3).heap[X2.heap.size]? = some (.cells (h0Cells (roundsW M p ⟨va, vb, vc, vd, ve, vf, vg, vh⟩ 64)) 46) := heap_alloc_last X2 _
              generalize (X2.alloc (.cells (h0Cells (roundsW M p ⟨va, vb, vc, vd, ve, vf, vg, vh⟩ 64)) 46)).drewN q3 = X3 at *
              have hH3 := (hB3.block _ hwl2).trans HH2.out
              have HB3 := Lib.hid hB3; have HS3 := Lib.hid hS3; have HH3 := Lib.hid hH3
              clear hB3 hS3 hH3
              go_wp2
              refine refAdd_loop X3 ⟨va, vb, vc, vd, ve, vf, vg, vh⟩ (roundsW M p ⟨va, vb, vc, vd, ve, vf, vg, vh⟩ 64) (w.heap.size + 1) X2.heap.size w.heap.size _ HH3.out HS3.out (by omega) (by omega) ?_
              intro y19 y236 y237 y238 y239 y240 y241 y242 y243 y244 y245 y246 y247 y248 W4 hH4 hz4 hf4 hb4
              have hb14 : Below w.heap.size w W4 := ((HBW2.out.trans (HB2.out.mono (by omega))).trans (HB3.out.mono (by omega))).trans hb4
              have hK4 : W4.heap[w.heap.size]? = some (.cells KA 45) := (hf4 _ (by omega)).trans ((HB3.out.block _ (by omega)).trans ((HB2.out.block _ (by omega)).trans HK.out))
              have hg4 : W4.heap[g]? = wr.heap[g]? := (hf4 _ (by omega)).trans ((HB3.out.block _ (by rw [HS2.out]; omega)).trans (HB2.out.block _ hgl))
              have hc4 : ∀ j (hj : j < M.length), W4.cell? ⟨g, j, none⟩ = some (.int .u8 (M[j].toNat : Int)) := fun j hj => (World.cell?_of_block (a := ⟨g, j, none⟩) hg4).trans (HC2.out j hj)
              have hgl4 : g < W4.heap.size := by rw [hz4]; have := HB3.out.size; have := HS2.out; omega
              have HH4 := Lib.hid hH4; have HB4 := Lib.hid hb14; have HK4 := Lib.hid hK4; have HC4 := Lib.hid hc4
              clear hH4 hz4 hf4 hb4 hb14 hK4 hg4 hc4
              go_wp2
              go_roundw
              case rel => exact ⟨j + 1, by have := HP.out; omega, by have := HP.out; go_num, HK4.out, by rw [HB.out]; exact HH4.out, HC4.out, hgl4, HB4.out⟩
              case measure => simp [intOf]; omega
            · have hlt' : decide (((64 * j : Nat) : Int) < (M.length : Int)) = false := by simp; omega
              have hje : j = M.length / 64 := by omega
              have hwl : w.heap.size + 1 < wr.heap.size := (Array.getElem?_eq_some_iff.1 hH).1
              have HH := Lib.hid hH; have HB := Lib.hid hbw; have HJ := Lib.hid hje
              clear hH hK hcl hbw hje
              go_wp2
              refine refOut_loop wr (blocksW M j) (w.heap.size + 1) _ HH.out ?_
              intros
              rename_i vo W5 hbuf hb5
              have htx := hbuf.text
              have hb15 : Below w.heap.size w W5 := HB.out.trans (hb5.mono (by omega))
              clear hbuf hb5
              go_wp2
              go_ret
              refine ⟨ret_str ?_, hb15⟩
              have e : M = padL s.data.toList := by
                rw [← HM.out, ← HP0.out]; rfl
              rw [HJ.out, e]; rfl
end Go.Proofs.YtdflghphjhejdaaDoor
