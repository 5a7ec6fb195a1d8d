/- Texts merged by program, in build order: LawCliR. -/
import Derived.Test.YtiofgepfcacgjaaDoorG03
import Derived.Deep.RegionLaw
import Derived.Deep.RegionWith
import Derived.Deep.Cut
set_option linter.unusedVariables false
set_option linter.unusedSimpArgs false
namespace Go.Proofs.YtiofgepfcacgjaaDoor
open Go.RowKit
set_option linter.unusedVariables false
set_option linter.unusedSimpArgs false

theorem redir_own (r : CliP) (j : Nat) (hj : j < r.cReds.length) : redirP r r.cReds[j] = true := by
  unfold redirP
  rw [List.any_eq_true]
  exact ⟨_, List.getElem_mem hj, by simp⟩
set_option maxRecDepth 100000 in
set_option maxHeartbeats 8000000 in
theorem clientRedirects_at {w : World} (K : CodeCli w) (D : CodeRedir w) (r : CliP) (A : Option Addr) (n c : Nat) (s : List UInt8) (hn : n = r.cReds.length) (hfit : r.fit) (ht : RdT w (.slice A n c) r.cReds) :
    Calls Tryd.prog 5 #[.agg #[tv r.cID, tv r.cSecret, .slice A n c], tv s] w fun e w' => e = .returned (.bool true) ∧ Below w.heap.size w w' := by
  obtain ⟨ID, hID⟩ : ∃ z : ByteArray, tv r.cID = .string z := ⟨_, rfl⟩
  obtain ⟨SE, hSE⟩ : ∃ z : ByteArray, tv r.cSecret = .string z := ⟨_, rfl⟩
  obtain ⟨Z, hZ⟩ : ∃ z : ByteArray, tv s = .string z := ⟨_, rfl⟩
  obtain ⟨X, hX⟩ : ∃ X, w.alloc (.cells #[.string ID, .string SE, .slice A n c] 32) = X := ⟨_, rfl⟩
  have bX : Below w.heap.size w X := by rw [← hX]; exact (Below.refl _ _).alloc (Nat.le_refl _) _
  have x1 : X.heap[w.heap.size]? = some (.cells #[.string ID, .string SE, .slice A n c] 32 (0, 0)) := by rw [← hX]; exact heap_alloc_last w _
  have ha := fun W (hb : Below X.heap.size X W) => answers16_any (K.later (bX.chain hb))
  have hf0 : n ≤ 200000000000000 := by have := hfit.2.2.1; omega
  obtain ⟨q, hq⟩ : ∃ q, w.heap.size = q := ⟨_, rfl⟩
  by_cases h100 : n ≤ 100
  rotate_left
  · have t : (100 : Int) < (n : Int) := by omega
    have HA := Lib.hid ha; have HXE := Lib.hid hX; have XW := Lib.hid bX; have X1 := Lib.hid x1; have HQ := Lib.hid hq
    rw [hID, hSE, hZ]
    clear ha x1 bX hX hID hSE hZ ht hfit hn D K h100 hq
    go_enter Tryd.func5, Tryd.ntmps5
    go_upto_region 1 with fail
    rw [HXE.out, HQ.out]
    obtain ⟨⟨e0, e1, e2⟩, -⟩ := cellsK3_of X1.out
    rw [HQ.out] at e0 e1 e2
    go_wp2_with fail
    refine (HA.out _ (Below.refl _ _)).mono ?_
    rintro e w1 ⟨rfl, hb1⟩
    have Q1 := Lib.hid hb1
    clear hb1
    dsimp only
    go_wp2_with fail
    go_ret
    exact ⟨rfl, XW.out.chain Q1.out⟩
  have t : ¬ (100 : Int) < (n : Int) := by omega
  have hj := fun (j : Nat) (hj : j < r.cReds.length) W (hb : Below X.heap.size X W) => D W (bX.chain hb) r A n c r.cReds[j] hn hfit (ht.below (bX.chain hb))
  have hd := fun W (hb : Below X.heap.size X W) => D W (bX.chain hb) r A n c s hn hfit (ht.below (bX.chain hb))
  have hr := fun W (hb : Below X.heap.size X W) => refRedirect_any r A n c s W hn hf0 (ht.below (bX.chain hb))
  obtain ⟨rb, hrb⟩ : ∃ b, redirP r s = b := ⟨_, rfl⟩
  have hown := redir_own r
  rw [hrb] at hd hr
  rw [hID, hSE] at hj hd hr ⊢
  have hzs : (⟨s.toArray⟩ : ByteArray) = Z := by have : Value.string ⟨s.toArray⟩ = Value.string Z := hZ
                                                 injection this
  rw [hzs] at hr
  rw [hZ] at hd ⊢
  have hrr : (rb == rb) = true := by simp
  have HA := Lib.hid ha; have HXE := Lib.hid hX; have XW := Lib.hid bX; have X1 := Lib.hid x1; have HJJ := Lib.hid hj; have HDD := Lib.hid hd; have HRR := Lib.hid hr; have HT := Lib.hid ht; have HN := Lib.hid hn; have HOWN := Lib.hid hown; have HQ := Lib.hid hq
  clear ha x1 bX hX hID hSE hZ ht hfit hn D K hj hd hr hrb hown hzs hq
  go_enter Tryd.func5, Tryd.ntmps5
  go_upto_region 1 with fail
  rw [HXE.out, HQ.out]
  have hx1 := X1.out
  rw [HQ.out] at hx1
  have X2 := Lib.hid hx1
  obtain ⟨⟨e0, e1, e2⟩, -⟩ := cellsK3_of hx1
  clear hx1
  go_wp2_with fail
  clear e0 e1 e2
  go_loopw [5] (fun i W => ∃ j : Nat, j ≤ n ∧ i = .int .i64 j ∧ Hid (Below X.heap.size X W)) (fun i _ => n - (intOf i).toNat)
  case atStart => exact ⟨0, Nat.zero_le _, rfl, Lib.hid (Below.refl _ _)⟩
  case round =>
    obtain ⟨j, hj, rfl, BR⟩ := hrel
    obtain ⟨⟨e0, e1, e2⟩, -⟩ := cellsK3_of (blk_below X2.out BR.out)
    by_cases hlt : j < n
    · have hjl : j < r.cReds.length := by have := HN.out; omega
      have hjr : decide ((j : Int) < n) = true := by simp; omega
      obtain ⟨g, o, rfl, hg, c0⟩ := HT.out.at j hjl
      obtain ⟨Y, hY⟩ : ∃ z : ByteArray, tv r.cReds[j] = .string z := ⟨_, rfl⟩
      rw [hY] at c0
      have hjj := fun W (hb : Below wr.heap.size wr W) => HJJ.out j hjl W (BR.out.chain hb)
      rw [HOWN.out j hjl, hY] at hjj
      have HJ := Lib.hid hjj
      have hcl : ∀ W, Below wr.heap.size wr W → (W.cell? ⟨q, 0, none⟩ = some (.string ID) ∧ W.cell? ⟨q, 1, none⟩ = some (.string SE) ∧ W.cell? ⟨q, 2, none⟩ = some (.slice (some ⟨g, o, none⟩) n c) ∧ W.cell? ⟨g, o + j, none⟩ = some (.string Y)) := fun W hb => by
        have k2 := blk_below X2.out (BR.out.chain hb)
        exact ⟨cell_here k2, cell_here k2, cell_here k2, ((XW.out.chain (BR.out.chain hb)).cell (p := ⟨g, o + j, none⟩) hg).trans c0⟩
      have HCL := Lib.hid hcl
      have hj0 : (0 : Int) ≤ j := by omega
      have hj1 : (j : Int) < n := by omega
      clear hcl hjj c0 hY
      go_upto_region 6 with fail
      clear e0 e1 e2
      refine wp_region_held_drew (S := (fun W => W.cell? ⟨q, 0, none⟩ = some (.string ID) ∧ W.cell? ⟨q, 1, none⟩ = some (.string SE) ∧ W.cell? ⟨q, 2, none⟩ = some (.slice (some ⟨g, o, none⟩) n c) ∧ W.cell? ⟨g, o + j, none⟩ = some (.string Y))) (by kernel_rfl) (HCL.out _ (Below.refl wr.heap.size wr).drew) (fun hHeld => ?_)
      refine wpAnyH_take (i := 0) (oi := _) (v := ?v73001) (by simp only [List.getElem?_toArray, List.getElem?_cons_succ, List.getElem?_cons_zero]; rfl) (by kernel_rfl) (by kernel_rfl) (by kernel_rfl) (by exact fun _ _ _ h => h) (Or.inl ⟨by rfl, ?hy73001⟩) (by assumption) ?rest73001
      case hy73001 => (intro w hSw; (try dsimp only at hSw); go_simp; try with_reducible rfl)
      try simp only [Act.put, List.setIfInBounds_toArray, List.set_cons_zero, List.set_cons_succ]
      refine wpAnyH_take (i := 1) (oi := _) (v := ?v73002) (by simp only [List.getElem?_toArray, List.getElem?_cons_succ, List.getElem?_cons_zero]; rfl) (by kernel_rfl) (by kernel_rfl) (by kernel_rfl) (by exact fun _ _ _ h => h) (Or.inl ⟨by rfl, ?hy73002⟩) (by assumption) ?rest73002
      case hy73002 => (intro w hSw; (try dsimp only at hSw); go_simp; try with_reducible rfl)
      try simp only [Act.put, List.setIfInBounds_toArray, List.set_cons_zero, List.set_cons_succ]
      refine wpAnyH_take (i := 2) (oi := _) (v := ?v73003) (by simp only [List.getElem?_toArray, List.getElem?_cons_succ, List.getElem?_cons_zero]; rfl) (by kernel_rfl) (by kernel_rfl) (by kernel_rfl) (by exact fun _ _ _ h => h) (Or.inl ⟨by rfl, ?hy73003⟩) (by assumption) ?rest73003
      case hy73003 => (intro w hSw; (try dsimp only at hSw); go_simp; try with_reducible rfl)
      try simp only [Act.put, List.setIfInBounds_toArray, List.set_cons_zero, List.set_cons_succ]
      refine wpAnyH_take (i := 3) (oi := _) (v := ?v73004) (by simp only [List.getElem?_toArray, List.getElem?_cons_succ, List.getElem?_cons_zero]; rfl) (by kernel_rfl) (by kernel_rfl) (by kernel_rfl) (by exact fun _ _ _ h => h) (Or.inl ⟨by rfl, ?hy73004⟩) (by assumption) ?rest73004
      case hy73004 => (intro w hSw; (try dsimp only at hSw); go_simp; try with_reducible rfl)
      try simp only [Act.put, List.setIfInBounds_toArray, List.set_cons_zero, List.set_cons_succ]
      refine wpAnyH_take (i := 4) (oi := _) (v := ?v73005) (by simp only [List.getElem?_toArray, List.getElem?_cons_succ, List.getElem?_cons_zero]; rfl) (by kernel_rfl) (by kernel_rfl) (by kernel_rfl) (by exact fun _ _ _ h => h) (Or.inl ⟨by rfl, ?hy73005⟩) (by assumption) ?rest73005
      case hy73005 => (intro w hSw; (try dsimp only at hSw); go_simp; try with_reducible rfl)
      try simp only [Act.put, List.setIfInBounds_toArray, List.set_cons_zero, List.set_cons_succ]
      refine wpAnyH_take (i := 5) (oi := _) (v := ?v73006) (by simp only [List.getElem?_toArray, List.getElem?_cons_succ, List.getElem?_cons_zero]; rfl) (by kernel_rfl) (by kernel_rfl) (by kernel_rfl) (by exact fun _ _ _ h => h) (Or.inl ⟨by rfl, ?hy73006⟩) (by assumption) ?rest73006
      case hy73006 => (intro w hSw; (try dsimp only at hSw); go_simp; try with_reducible rfl)
      try simp only [Act.put, List.setIfInBounds_toArray, List.set_cons_zero, List.set_cons_succ]
      refine wpAnyH_ready (rs := [6]) (by kernel_rfl) (by simp) ?_
      refine AllReadyH.cons (o := _) (by simp only [List.getElem?_toArray, List.getElem?_cons_succ, List.getElem?_cons_zero]; rfl) (fun K hK => ?_) AllReadyH.nil
      go_simp
      go_at_call 18
      (with_reducible refine (HJ.out _ (Below.refl wr.heap.size wr).drew).mono ?_)
      rintro e w1 ⟨rfl, hb1⟩
      have Q1 := Lib.hid ((Below.refl wr.heap.size wr).drew.chain hb1)
      clear hb1
      dsimp only
      refine hK.out _ _ (HCL.out _ Q1.out) (fun hHeld => ?_)
      clear hK K
      try simp only [Act.put, List.setIfInBounds_toArray, List.set_cons_zero, List.set_cons_succ]
      refine wpAnyH_take (i := 7) (oi := _) (v := ?v73008) (by simp only [List.getElem?_toArray, List.getElem?_cons_succ, List.getElem?_cons_zero]; rfl) (by kernel_rfl) (by kernel_rfl) (by kernel_rfl) (by exact fun _ _ _ h => h) (Or.inl ⟨by rfl, ?hy73008⟩) (by assumption) ?rest73008
      case hy73008 => (intro w hSw; (try dsimp only at hSw); go_simp; try with_reducible rfl)
      try simp only [Act.put, List.setIfInBounds_toArray, List.set_cons_zero, List.set_cons_succ]
      refine wpAnyH_done (by kernel_rfl) ?_ _
      go_wp2_with fail
      go_roundw
      case rel => exact ⟨j + 1, by omega, by go_num, Lib.hid (BR.out.chain Q1.out)⟩
      case measure => simp [intOf]; omega
    · obtain rfl : j = n := by omega
      have hjr : decide ((j : Int) < j) = false := by simp
      have hce : ∀ W, Below wr.heap.size wr W → (W.cell? ⟨q, 0, none⟩ = some (.string ID) ∧ W.cell? ⟨q, 1, none⟩ = some (.string SE) ∧ W.cell? ⟨q, 2, none⟩ = some (.slice A j c)) := fun W hb => by
        have k2 := blk_below X2.out (BR.out.chain hb)
        exact ⟨cell_here k2, cell_here k2, cell_here k2⟩
      have HCE := Lib.hid hce
      have ha := fun W (hb : Below wr.heap.size wr W) => HA.out W (BR.out.chain hb)
      have hd := fun W (hb : Below wr.heap.size wr W) => HDD.out W (BR.out.chain hb)
      have hr := fun W (hb : Below wr.heap.size wr W) => HRR.out W (BR.out.chain hb)
      clear HA
      have HA := Lib.hid ha; have HD := Lib.hid hd; have HR := Lib.hid hr
      clear hce ha hd hr
      go_upto_region 8 with fail
      clear e0 e1 e2
      refine wp_region_held_drew (S := (fun W => W.cell? ⟨q, 0, none⟩ = some (.string ID) ∧ W.cell? ⟨q, 1, none⟩ = some (.string SE) ∧ W.cell? ⟨q, 2, none⟩ = some (.slice A j c))) (by kernel_rfl) (HCE.out _ (Below.refl wr.heap.size wr).drew) (fun hHeld => ?_)
      refine wpAnyH_ready (rs := [0]) (by kernel_rfl) (by simp) ?_
      refine AllReadyH.cons (o := _) (by simp only [List.getElem?_toArray, List.getElem?_cons_succ, List.getElem?_cons_zero]; rfl) (fun K hK => ?_) AllReadyH.nil
      go_simp
      go_at_call 8
      (with_reducible refine (HA.out _ ((Below.refl wr.heap.size wr).drew)).mono ?_)
      rintro e w1 ⟨rfl, hb1⟩
      have Q1 := Lib.hid (((Below.refl wr.heap.size wr).drew).chain hb1)
      clear hb1
      dsimp only
      refine hK.out _ _ (HCE.out _ Q1.out) (fun hHeld => ?_)
      clear hK K
      try simp only [Act.put, List.setIfInBounds_toArray, List.set_cons_zero, List.set_cons_succ]
      refine wpAnyH_take (i := 1) (oi := _) (v := ?v73010) (by simp only [List.getElem?_toArray, List.getElem?_cons_succ, List.getElem?_cons_zero]; rfl) (by kernel_rfl) (by kernel_rfl) (by kernel_rfl) (by exact fun _ _ _ h => h) (Or.inl ⟨by rfl, ?hy73010⟩) (by assumption) ?rest73010
      case hy73010 => (intro w hSw; (try dsimp only at hSw); go_simp; try with_reducible rfl)
      try simp only [Act.put, List.setIfInBounds_toArray, List.set_cons_zero, List.set_cons_succ]
      refine wpAnyH_take (i := 2) (oi := _) (v := ?v73011) (by simp only [List.getElem?_toArray, List.getElem?_cons_succ, List.getElem?_cons_zero]; rfl) (by kernel_rfl) (by kernel_rfl) (by kernel_rfl) (by exact fun _ _ _ h => h) (Or.inl ⟨by rfl, ?hy73011⟩) (by assumption) ?rest73011
      case hy73011 => (intro w hSw; (try dsimp only at hSw); go_simp; try with_reducible rfl)
      try simp only [Act.put, List.setIfInBounds_toArray, List.set_cons_zero, List.set_cons_succ]
      refine wpAnyH_take (i := 3) (oi := _) (v := ?v73012) (by simp only [List.getElem?_toArray, List.getElem?_cons_succ, List.getElem?_cons_zero]; rfl) (by kernel_rfl) (by kernel_rfl) (by kernel_rfl) (by exact fun _ _ _ h => h) (Or.inl ⟨by rfl, ?hy73012⟩) (by assumption) ?rest73012
      case hy73012 => (intro w hSw; (try dsimp only at hSw); go_simp; try with_reducible rfl)
      try simp only [Act.put, List.setIfInBounds_toArray, List.set_cons_zero, List.set_cons_succ]
      refine wpAnyH_take (i := 5) (oi := _) (v := ?v73013) (by simp only [List.getElem?_toArray, List.getElem?_cons_succ, List.getElem?_cons_zero]; rfl) (by kernel_rfl) (by kernel_rfl) (by kernel_rfl) (by exact fun _ _ _ h => h) (Or.inl ⟨by rfl, ?hy73013⟩) (by assumption) ?rest73013
      case hy73013 => (intro w hSw; (try dsimp only at hSw); go_simp; try with_reducible rfl)
      try simp only [Act.put, List.setIfInBounds_toArray, List.set_cons_zero, List.set_cons_succ]
      refine wpAnyH_take (i := 6) (oi := _) (v := ?v73014) (by simp only [List.getElem?_toArray, List.getElem?_cons_succ, List.getElem?_cons_zero]; rfl) (by kernel_rfl) (by kernel_rfl) (by kernel_rfl) (by exact fun _ _ _ h => h) (Or.inl ⟨by rfl, ?hy73014⟩) (by assumption) ?rest73014
      case hy73014 => (intro w hSw; (try dsimp only at hSw); go_simp; try with_reducible rfl)
      try simp only [Act.put, List.setIfInBounds_toArray, List.set_cons_zero, List.set_cons_succ]
      refine wpAnyH_ready (rs := [4]) (by kernel_rfl) (by simp) ?_
      refine AllReadyH.cons (o := _) (by simp only [List.getElem?_toArray, List.getElem?_cons_succ, List.getElem?_cons_zero]; rfl) (fun K hK => ?_) AllReadyH.nil
      go_simp
      go_at_call 18
      (with_reducible refine (HD.out _ (Q1.out)).mono ?_)
      rintro e w2 ⟨rfl, hb2⟩
      have Q2 := Lib.hid ((Q1.out).chain hb2)
      clear hb2
      dsimp only
      refine hK.out _ _ (HCE.out _ Q2.out) (fun hHeld => ?_)
      clear hK K
      try simp only [Act.put, List.setIfInBounds_toArray, List.set_cons_zero, List.set_cons_succ]
      refine wpAnyH_ready (rs := [7]) (by kernel_rfl) (by simp) ?_
      refine AllReadyH.cons (o := _) (by simp only [List.getElem?_toArray, List.getElem?_cons_succ, List.getElem?_cons_zero]; rfl) (fun K hK => ?_) AllReadyH.nil
      go_simp
      go_at_call 19
      (with_reducible refine (HR.out _ (Q2.out)).mono ?_)
      rintro e w3 ⟨rfl, hb3⟩
      have Q3 := Lib.hid ((Q2.out).chain hb3)
      clear hb3
      dsimp only
      refine hK.out _ _ (HCE.out _ Q3.out) (fun hHeld => ?_)
      clear hK K
      try simp only [Act.put, List.setIfInBounds_toArray, List.set_cons_zero, List.set_cons_succ]
      refine wpAnyH_take (i := 8) (oi := _) (v := ?v73017) (by simp only [List.getElem?_toArray, List.getElem?_cons_succ, List.getElem?_cons_zero]; rfl) (by kernel_rfl) (by kernel_rfl) (by kernel_rfl) (by exact fun _ _ _ h => h) (Or.inl ⟨by rfl, ?hy73017⟩) (by assumption) ?rest73017
      case hy73017 => (intro w hSw; (try dsimp only at hSw); go_simp; try with_reducible rfl)
      try simp only [Act.put, List.setIfInBounds_toArray, List.set_cons_zero, List.set_cons_succ]
      refine wpAnyH_take (i := 9) (oi := _) (v := ?v73018) (by simp only [List.getElem?_toArray, List.getElem?_cons_succ, List.getElem?_cons_zero]; rfl) (by kernel_rfl) (by kernel_rfl) (by kernel_rfl) (by exact fun _ _ _ h => h) (Or.inl ⟨by rfl, ?hy73018⟩) (by assumption) ?rest73018
      case hy73018 => (intro w hSw; (try dsimp only at hSw); go_simp; try with_reducible rfl)
      try simp only [Act.put, List.setIfInBounds_toArray, List.set_cons_zero, List.set_cons_succ]
      refine wpAnyH_take (i := 10) (oi := _) (v := ?v73019) (by simp only [List.getElem?_toArray, List.getElem?_cons_succ, List.getElem?_cons_zero]; rfl) (by kernel_rfl) (by kernel_rfl) (by kernel_rfl) (by exact fun _ _ _ h => h) (Or.inl ⟨by rfl, ?hy73019⟩) (by assumption) ?rest73019
      case hy73019 => (intro w hSw; (try dsimp only at hSw); go_simp; try with_reducible rfl)
      try simp only [Act.put, List.setIfInBounds_toArray, List.set_cons_zero, List.set_cons_succ]
      refine wpAnyH_done (by kernel_rfl) ?_ _
      go_wp2
      go_ret
      exact ⟨rfl, XW.out.chain (BR.out.chain Q3.out)⟩
end Go.Proofs.YtiofgepfcacgjaaDoor
