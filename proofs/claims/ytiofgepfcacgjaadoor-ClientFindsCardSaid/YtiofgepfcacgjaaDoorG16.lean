/- Texts merged by program, in build order: LawCliG, CliGo, CliFirst. -/
import Derived.Test.YtiofgepfcacgjaaDoorG03
import Derived.Test.YtiofgepfcacgjaaDoorG15
import Derived.Deep.RegionLaw
import Derived.Deep.RegionWith
import Derived.Deep.Cut
import Derived.Test.YtiofgepfcacgjaaDoorG06
import Derived.Test.YtiofgepfcacgjaaDoorG07
import Derived.Test.YtiofgepfcacgjaaDoorG08
import Derived.Test.YtiofgepfcacgjaaDoorG09
import Derived.Test.YtiofgepfcacgjaaDoorG10
import Derived.Test.YtiofgepfcacgjaaDoorG02
import Derived.Test.YtiofgepfcacgjaaDoorG13
set_option linter.unusedVariables false
set_option linter.unusedSimpArgs false
namespace Go.Proofs.YtiofgepfcacgjaaDoor
open Go.RowKit
set_option linter.unusedVariables false
set_option linter.unusedSimpArgs false

theorem goodCfg_at {x : CfgP} {g : Bool} (hg : g = true ↔ GoodC x) {e : Ending} (h : GoodCfg x e) : e = .returned (.bool g) := by
  obtain ⟨b, rfl, hb⟩ := h
  have : b = g := by cases b <;> cases g <;> simp_all
  rw [this]
theorem fewSays_at {x : CfgP} {g : Bool} (hg : g = true ↔ x.few) {e : Ending} (h : FewSays x e) : e = .returned (.bool g) := by
  obtain ⟨b, rfl, hb⟩ := h
  have : b = g := by cases b <;> cases g <;> simp_all
  rw [this]
set_option maxRecDepth 100000 in
set_option maxHeartbeats 8000000 in
theorem clientGood_at {w : World} (K : CodeCli w) (x : CfgP) (A : Option Addr) (n c : Nat) (A' : Option Addr) (n' c' : Nat) (h : CfgIs w x A n c A' n' c') (hfit : x.fit) :
    Calls Tryd.prog 3 #[x.val A n c A' n' c'] w fun e w' => e = .returned (.bool true) ∧ Below w.heap.size w w' := by
  obtain ⟨IS, hIS⟩ : ∃ z : ByteArray, (⟨x.gIssuer.toArray⟩ : ByteArray) = z := ⟨_, rfl⟩
  obtain ⟨KI, hKI⟩ : ∃ z : ByteArray, (⟨x.gKeyID.toArray⟩ : ByteArray) = z := ⟨_, rfl⟩
  obtain ⟨KS, hKS⟩ : ∃ z : ByteArray, (⟨x.gKeySecret.toArray⟩ : ByteArray) = z := ⟨_, rfl⟩
  have hv : x.val A n c A' n' c' = .agg #[.string IS, .string KI, .string KS, .slice A n c, .slice A' n' c'] := by unfold CfgP.val tv; rw [hIS, hKI, hKS]
  obtain ⟨gb, hgb⟩ : ∃ g : Bool, g = true ↔ GoodC x := by
    by_cases h : GoodC x
    · exact ⟨true, by simp [h]⟩
    · exact ⟨false, by simp [h]⟩
  obtain ⟨X, hX⟩ : ∃ X, w.alloc (.cells #[.string IS, .string KI, .string KS, .slice A n c, .slice A' n' c'] 27) = X := ⟨_, rfl⟩
  have bX : Below w.heap.size w X := by rw [← hX]; exact (Below.refl _ _).alloc (Nat.le_refl _) _
  have x1 : X.heap[w.heap.size]? = some (.cells #[.string IS, .string KI, .string KS, .slice A n c, .slice A' n' c'] 27 (0, 0)) := by rw [← hX]; exact heap_alloc_last w _
  have hcf : ∀ W, Below X.heap.size X W → CfgIs W x A n c A' n' c' := fun W hb => h.below (bX.chain hb)
  have hcb : ∀ W, Below X.heap.size X W → (W.cell? ⟨w.heap.size, 0, none⟩ = some (.string IS) ∧ W.cell? ⟨w.heap.size, 1, none⟩ = some (.string KI) ∧ W.cell? ⟨w.heap.size, 2, none⟩ = some (.string KS) ∧ W.cell? ⟨w.heap.size, 3, none⟩ = some (.slice A n c) ∧ W.cell? ⟨w.heap.size, 4, none⟩ = some (.slice A' n' c')) := fun W hb => by
    have k2 := blk_below x1 hb
    exact ⟨cell_here k2, cell_here k2, cell_here k2, cell_here k2, cell_here k2⟩
  have ha := fun W (hb : Below X.heap.size X W) => answers16_any (K.later (bX.chain hb))
  have HA := Lib.hid ha; have HCB := Lib.hid hcb; have XW := Lib.hid bX
  have hgg : (gb == gb) = true := by simp
  by_cases hfw : x.few
  · have hs := fun W (hb : Below X.heap.size X W) => (small16_any x A n c A' n' c' W (hcf W hb) hfit).mono fun e w' h => And.intro (fewSays_at (g := true) (by simp [hfw]) h.1) h.2
    have hg := fun W (hb : Below X.heap.size X W) => (K.good W (bX.chain hb) x A n c A' n' c' (hcf W hb) ⟨hfit, hfw⟩).mono fun e w' h => And.intro (goodCfg_at hgb h.1) h.2
    have hr := fun W (hb : Below X.heap.size X W) => (refGoodCfg_any x A n c A' n' c' W (hcf W hb) ⟨hfit, hfw⟩).mono fun e w' h => And.intro (goodCfg_at hgb h.1) h.2
    rw [hv] at hs hg hr ⊢
    have HS := Lib.hid hs; have HG := Lib.hid hg; have HR := Lib.hid hr; have HXE := Lib.hid hX
    clear hs hg hr ha hcb hcf x1 bX hX hv hIS hKI hKS h hfit hfw K hgb
    go_enter Tryd.func3, Tryd.ntmps3
    go_upto_region 1 with fail
    rw [HXE.out]
    refine wp_region_held_drew (S := (fun W => W.cell? ⟨w.heap.size, 0, none⟩ = some (.string IS) ∧ W.cell? ⟨w.heap.size, 1, none⟩ = some (.string KI) ∧ W.cell? ⟨w.heap.size, 2, none⟩ = some (.string KS) ∧ W.cell? ⟨w.heap.size, 3, none⟩ = some (.slice A n c) ∧ W.cell? ⟨w.heap.size, 4, none⟩ = some (.slice A' n' c'))) (by kernel_rfl) (HCB.out _ (Below.refl X.heap.size X).drew) (fun hHeld => ?_)
    refine wpAnyH_ready (rs := [0]) (by kernel_rfl) (by simp) ?_
    refine AllReadyH.cons (o := _) (by simp only [List.getElem?_toArray, List.getElem?_cons_succ, List.getElem?_cons_zero]; rfl) (fun K hK => ?_) AllReadyH.nil
    go_simp
    go_at_call 8
    (with_reducible refine (HA.out _ ((Below.refl X.heap.size X).drew)).mono ?_)
    rintro e w1 ⟨rfl, hb1⟩
    have Q1 := Lib.hid (((Below.refl X.heap.size X).drew).chain hb1)
    clear hb1
    dsimp only
    refine hK.out _ _ (HCB.out _ Q1.out) (fun hHeld => ?_)
    clear hK K
    try simp only [Act.put, List.setIfInBounds_toArray, List.set_cons_zero, List.set_cons_succ]
    refine wpAnyH_take (i := 1) (oi := _) (v := ?v72002) (by simp only [List.getElem?_toArray, List.getElem?_cons_succ, List.getElem?_cons_zero]; rfl) (by kernel_rfl) (by kernel_rfl) (by kernel_rfl) (by exact fun _ _ _ h => h) (Or.inl ⟨by rfl, ?hy72002⟩) (by assumption) ?rest72002
    case hy72002 => (intro w hSw; (try dsimp only at hSw); go_simp; try with_reducible rfl)
    try simp only [Act.put, List.setIfInBounds_toArray, List.set_cons_zero, List.set_cons_succ]
    refine wpAnyH_take (i := 2) (oi := _) (v := ?v72003) (by simp only [List.getElem?_toArray, List.getElem?_cons_succ, List.getElem?_cons_zero]; rfl) (by kernel_rfl) (by kernel_rfl) (by kernel_rfl) (by exact fun _ _ _ h => h) (Or.inl ⟨by rfl, ?hy72003⟩) (by assumption) ?rest72003
    case hy72003 => (intro w hSw; (try dsimp only at hSw); go_simp; try with_reducible rfl)
    try simp only [Act.put, List.setIfInBounds_toArray, List.set_cons_zero, List.set_cons_succ]
    refine wpAnyH_ready (rs := [3]) (by kernel_rfl) (by simp) ?_
    refine AllReadyH.cons (o := _) (by simp only [List.getElem?_toArray, List.getElem?_cons_succ, List.getElem?_cons_zero]; rfl) (fun K hK => ?_) AllReadyH.nil
    go_simp
    go_at_call 9
    (with_reducible refine (HS.out _ (Q1.out)).mono ?_)
    rintro e w2 ⟨rfl, hb2⟩
    have Q2 := Lib.hid ((Q1.out).chain hb2)
    clear hb2
    dsimp only
    refine hK.out _ _ (HCB.out _ Q2.out) (fun hHeld => ?_)
    clear hK K
    try simp only [Act.put, List.setIfInBounds_toArray, List.set_cons_zero, List.set_cons_succ]
    refine wpAnyH_take (i := 4) (oi := _) (v := ?v72005) (by simp only [List.getElem?_toArray, List.getElem?_cons_succ, List.getElem?_cons_zero]; rfl) (by kernel_rfl) (by kernel_rfl) (by kernel_rfl) (by exact fun _ _ _ h => h) (Or.inl ⟨by rfl, ?hy72005⟩) (by assumption) ?rest72005
    case hy72005 => (intro w hSw; (try dsimp only at hSw); go_simp; try with_reducible rfl)
    try simp only [Act.put, List.setIfInBounds_toArray, List.set_cons_zero, List.set_cons_succ]
    refine wpAnyH_take (i := 5) (oi := _) (v := ?v72006) (by simp only [List.getElem?_toArray, List.getElem?_cons_succ, List.getElem?_cons_zero]; rfl) (by kernel_rfl) (by kernel_rfl) (by kernel_rfl) (by exact fun _ _ _ h => h) (Or.inl ⟨by rfl, ?hy72006⟩) (by assumption) ?rest72006
    case hy72006 => (intro w hSw; (try dsimp only at hSw); go_simp; try with_reducible rfl)
    try simp only [Act.put, List.setIfInBounds_toArray, List.set_cons_zero, List.set_cons_succ]
    refine wpAnyH_take (i := 6) (oi := _) (v := ?v72007) (by simp only [List.getElem?_toArray, List.getElem?_cons_succ, List.getElem?_cons_zero]; rfl) (by kernel_rfl) (by kernel_rfl) (by kernel_rfl) (by exact fun _ _ _ h => h) (Or.inl ⟨by rfl, ?hy72007⟩) (by assumption) ?rest72007
    case hy72007 => (intro w hSw; (try dsimp only at hSw); go_simp; try with_reducible rfl)
    try simp only [Act.put, List.setIfInBounds_toArray, List.set_cons_zero, List.set_cons_succ]
    refine wpAnyH_take (i := 8) (oi := _) (v := ?v72008) (by simp only [List.getElem?_toArray, List.getElem?_cons_succ, List.getElem?_cons_zero]; rfl) (by kernel_rfl) (by kernel_rfl) (by kernel_rfl) (by exact fun _ _ _ h => h) (Or.inl ⟨by rfl, ?hy72008⟩) (by assumption) ?rest72008
    case hy72008 => (intro w hSw; (try dsimp only at hSw); go_simp; try with_reducible rfl)
    try simp only [Act.put, List.setIfInBounds_toArray, List.set_cons_zero, List.set_cons_succ]
    refine wpAnyH_ready (rs := [7]) (by kernel_rfl) (by simp) ?_
    refine AllReadyH.cons (o := _) (by simp only [List.getElem?_toArray, List.getElem?_cons_succ, List.getElem?_cons_zero]; rfl) (fun K hK => ?_) AllReadyH.nil
    go_simp
    go_at_call 10
    (with_reducible refine (HG.out _ (Q2.out)).mono ?_)
    rintro e w3 ⟨rfl, hb3⟩
    have Q3 := Lib.hid ((Q2.out).chain hb3)
    clear hb3
    dsimp only
    refine hK.out _ _ (HCB.out _ Q3.out) (fun hHeld => ?_)
    clear hK K
    try simp only [Act.put, List.setIfInBounds_toArray, List.set_cons_zero, List.set_cons_succ]
    refine wpAnyH_ready (rs := [9]) (by kernel_rfl) (by simp) ?_
    refine AllReadyH.cons (o := _) (by simp only [List.getElem?_toArray, List.getElem?_cons_succ, List.getElem?_cons_zero]; rfl) (fun K hK => ?_) AllReadyH.nil
    go_simp
    go_at_call 11
    (with_reducible refine (HR.out _ (Q3.out)).mono ?_)
    rintro e w4 ⟨rfl, hb4⟩
    have Q4 := Lib.hid ((Q3.out).chain hb4)
    clear hb4
    dsimp only
    refine hK.out _ _ (HCB.out _ Q4.out) (fun hHeld => ?_)
    clear hK K
    try simp only [Act.put, List.setIfInBounds_toArray, List.set_cons_zero, List.set_cons_succ]
    refine wpAnyH_take (i := 10) (oi := _) (v := ?v72011) (by simp only [List.getElem?_toArray, List.getElem?_cons_succ, List.getElem?_cons_zero]; rfl) (by kernel_rfl) (by kernel_rfl) (by kernel_rfl) (by exact fun _ _ _ h => h) (Or.inl ⟨by rfl, ?hy72011⟩) (by assumption) ?rest72011
    case hy72011 => (intro w hSw; (try dsimp only at hSw); go_simp; try with_reducible rfl)
    try simp only [Act.put, List.setIfInBounds_toArray, List.set_cons_zero, List.set_cons_succ]
    refine wpAnyH_take (i := 11) (oi := _) (v := ?v72012) (by simp only [List.getElem?_toArray, List.getElem?_cons_succ, List.getElem?_cons_zero]; rfl) (by kernel_rfl) (by kernel_rfl) (by kernel_rfl) (by exact fun _ _ _ h => h) (Or.inl ⟨by rfl, ?hy72012⟩) (by assumption) ?rest72012
    case hy72012 => (intro w hSw; (try dsimp only at hSw); go_simp; try with_reducible rfl)
    try simp only [Act.put, List.setIfInBounds_toArray, List.set_cons_zero, List.set_cons_succ]
    refine wpAnyH_take (i := 12) (oi := _) (v := ?v72013) (by simp only [List.getElem?_toArray, List.getElem?_cons_succ, List.getElem?_cons_zero]; rfl) (by kernel_rfl) (by kernel_rfl) (by kernel_rfl) (by exact fun _ _ _ h => h) (Or.inl ⟨by rfl, ?hy72013⟩) (by assumption) ?rest72013
    case hy72013 => (intro w hSw; (try dsimp only at hSw); go_simp; try with_reducible rfl)
    try simp only [Act.put, List.setIfInBounds_toArray, List.set_cons_zero, List.set_cons_succ]
    refine wpAnyH_take (i := 13) (oi := _) (v := ?v72014) (by simp only [List.getElem?_toArray, List.getElem?_cons_succ, List.getElem?_cons_zero]; rfl) (by kernel_rfl) (by kernel_rfl) (by kernel_rfl) (by exact fun _ _ _ h => h) (Or.inl ⟨by rfl, ?hy72014⟩) (by assumption) ?rest72014
    case hy72014 => (intro w hSw; (try dsimp only at hSw); go_simp; try with_reducible rfl)
    try simp only [Act.put, List.setIfInBounds_toArray, List.set_cons_zero, List.set_cons_succ]
    refine wpAnyH_done (by kernel_rfl) ?_ _
    go_wp2
    go_ret
    exact ⟨rfl, XW.out.chain Q4.out⟩
  · have hs := fun W (hb : Below X.heap.size X W) => (small16_any x A n c A' n' c' W (hcf W hb) hfit).mono fun e w' h => And.intro (fewSays_at (g := false) (by simp [hfw]) h.1) h.2
    rw [hv] at hs ⊢
    have HS := Lib.hid hs; have HXE := Lib.hid hX
    clear hs ha hcb hcf x1 bX hX hv hIS hKI hKS h hfit hfw K hgb
    go_enter Tryd.func3, Tryd.ntmps3
    go_upto_region 1 with fail
    rw [HXE.out]
    refine wp_region_held_drew (S := (fun W => W.cell? ⟨w.heap.size, 0, none⟩ = some (.string IS) ∧ W.cell? ⟨w.heap.size, 1, none⟩ = some (.string KI) ∧ W.cell? ⟨w.heap.size, 2, none⟩ = some (.string KS) ∧ W.cell? ⟨w.heap.size, 3, none⟩ = some (.slice A n c) ∧ W.cell? ⟨w.heap.size, 4, none⟩ = some (.slice A' n' c'))) (by kernel_rfl) (HCB.out _ (Below.refl X.heap.size X).drew) (fun hHeld => ?_)
    refine wpAnyH_ready (rs := [0]) (by kernel_rfl) (by simp) ?_
    refine AllReadyH.cons (o := _) (by simp only [List.getElem?_toArray, List.getElem?_cons_succ, List.getElem?_cons_zero]; rfl) (fun K hK => ?_) AllReadyH.nil
    go_simp
    go_at_call 8
    (with_reducible refine (HA.out _ ((Below.refl X.heap.size X).drew)).mono ?_)
    rintro e w1 ⟨rfl, hb1⟩
    have Q1 := Lib.hid (((Below.refl X.heap.size X).drew).chain hb1)
    clear hb1
    dsimp only
    refine hK.out _ _ (HCB.out _ Q1.out) (fun hHeld => ?_)
    clear hK K
    try simp only [Act.put, List.setIfInBounds_toArray, List.set_cons_zero, List.set_cons_succ]
    refine wpAnyH_take (i := 1) (oi := _) (v := ?v72016) (by simp only [List.getElem?_toArray, List.getElem?_cons_succ, List.getElem?_cons_zero]; rfl) (by kernel_rfl) (by kernel_rfl) (by kernel_rfl) (by exact fun _ _ _ h => h) (Or.inl ⟨by rfl, ?hy72016⟩) (by assumption) ?rest72016
    case hy72016 => (intro w hSw; (try dsimp only at hSw); go_simp; try with_reducible rfl)
    try simp only [Act.put, List.setIfInBounds_toArray, List.set_cons_zero, List.set_cons_succ]
    refine wpAnyH_take (i := 2) (oi := _) (v := ?v72017) (by simp only [List.getElem?_toArray, List.getElem?_cons_succ, List.getElem?_cons_zero]; rfl) (by kernel_rfl) (by kernel_rfl) (by kernel_rfl) (by exact fun _ _ _ h => h) (Or.inl ⟨by rfl, ?hy72017⟩) (by assumption) ?rest72017
    case hy72017 => (intro w hSw; (try dsimp only at hSw); go_simp; try with_reducible rfl)
    try simp only [Act.put, List.setIfInBounds_toArray, List.set_cons_zero, List.set_cons_succ]
    refine wpAnyH_ready (rs := [3]) (by kernel_rfl) (by simp) ?_
    refine AllReadyH.cons (o := _) (by simp only [List.getElem?_toArray, List.getElem?_cons_succ, List.getElem?_cons_zero]; rfl) (fun K hK => ?_) AllReadyH.nil
    go_simp
    go_at_call 9
    (with_reducible refine (HS.out _ (Q1.out)).mono ?_)
    rintro e w2 ⟨rfl, hb2⟩
    have Q2 := Lib.hid ((Q1.out).chain hb2)
    clear hb2
    dsimp only
    refine hK.out _ _ (HCB.out _ Q2.out) (fun hHeld => ?_)
    clear hK K
    try simp only [Act.put, List.setIfInBounds_toArray, List.set_cons_zero, List.set_cons_succ]
    refine wpAnyH_take (i := 4) (oi := _) (v := ?v72019) (by simp only [List.getElem?_toArray, List.getElem?_cons_succ, List.getElem?_cons_zero]; rfl) (by kernel_rfl) (by kernel_rfl) (by kernel_rfl) (by exact fun _ _ _ h => h) (Or.inl ⟨by rfl, ?hy72019⟩) (by assumption) ?rest72019
    case hy72019 => (intro w hSw; (try dsimp only at hSw); go_simp; try with_reducible rfl)
    try simp only [Act.put, List.setIfInBounds_toArray, List.set_cons_zero, List.set_cons_succ]
    refine wpAnyH_take (i := 5) (oi := _) (v := ?v72020) (by simp only [List.getElem?_toArray, List.getElem?_cons_succ, List.getElem?_cons_zero]; rfl) (by kernel_rfl) (by kernel_rfl) (by kernel_rfl) (by exact fun _ _ _ h => h) (Or.inl ⟨by rfl, ?hy72020⟩) (by assumption) ?rest72020
    case hy72020 => (intro w hSw; (try dsimp only at hSw); go_simp; try with_reducible rfl)
    try simp only [Act.put, List.setIfInBounds_toArray, List.set_cons_zero, List.set_cons_succ]
    refine wpAnyH_take (i := 6) (oi := _) (v := undef) (by simp only [List.getElem?_toArray, List.getElem?_cons_succ, List.getElem?_cons_zero]; rfl) (by kernel_rfl) (by kernel_rfl) (by kernel_rfl) (by exact fun _ _ _ h => h) (Or.inr ⟨by rfl, rfl⟩) (by assumption) ?rest72021
    try simp only [Act.put, List.setIfInBounds_toArray, List.set_cons_zero, List.set_cons_succ]
    refine wpAnyH_take (i := 7) (oi := _) (v := undef) (by simp only [List.getElem?_toArray, List.getElem?_cons_succ, List.getElem?_cons_zero]; rfl) (by kernel_rfl) (by kernel_rfl) (by kernel_rfl) (by exact fun _ _ _ h => h) (Or.inr ⟨by rfl, rfl⟩) (by assumption) ?rest72022
    try simp only [Act.put, List.setIfInBounds_toArray, List.set_cons_zero, List.set_cons_succ]
    refine wpAnyH_take (i := 8) (oi := _) (v := undef) (by simp only [List.getElem?_toArray, List.getElem?_cons_succ, List.getElem?_cons_zero]; rfl) (by kernel_rfl) (by kernel_rfl) (by kernel_rfl) (by exact fun _ _ _ h => h) (Or.inr ⟨by rfl, rfl⟩) (by assumption) ?rest72023
    try simp only [Act.put, List.setIfInBounds_toArray, List.set_cons_zero, List.set_cons_succ]
    refine wpAnyH_take (i := 9) (oi := _) (v := undef) (by simp only [List.getElem?_toArray, List.getElem?_cons_succ, List.getElem?_cons_zero]; rfl) (by kernel_rfl) (by kernel_rfl) (by kernel_rfl) (by exact fun _ _ _ h => h) (Or.inr ⟨by rfl, rfl⟩) (by assumption) ?rest72024
    try simp only [Act.put, List.setIfInBounds_toArray, List.set_cons_zero, List.set_cons_succ]
    refine wpAnyH_take (i := 10) (oi := _) (v := undef) (by simp only [List.getElem?_toArray, List.getElem?_cons_succ, List.getElem?_cons_zero]; rfl) (by kernel_rfl) (by kernel_rfl) (by kernel_rfl) (by exact fun _ _ _ h => h) (Or.inr ⟨by rfl, rfl⟩) (by assumption) ?rest72025
    try simp only [Act.put, List.setIfInBounds_toArray, List.set_cons_zero, List.set_cons_succ]
    refine wpAnyH_take (i := 11) (oi := _) (v := ?v72026) (by simp only [List.getElem?_toArray, List.getElem?_cons_succ, List.getElem?_cons_zero]; rfl) (by kernel_rfl) (by kernel_rfl) (by kernel_rfl) (by exact fun _ _ _ h => h) (Or.inl ⟨by rfl, ?hy72026⟩) (by assumption) ?rest72026
    case hy72026 => (intro w hSw; (try dsimp only at hSw); go_simp; try with_reducible rfl)
    try simp only [Act.put, List.setIfInBounds_toArray, List.set_cons_zero, List.set_cons_succ]
    refine wpAnyH_take (i := 12) (oi := _) (v := ?v72027) (by simp only [List.getElem?_toArray, List.getElem?_cons_succ, List.getElem?_cons_zero]; rfl) (by kernel_rfl) (by kernel_rfl) (by kernel_rfl) (by exact fun _ _ _ h => h) (Or.inl ⟨by rfl, ?hy72027⟩) (by assumption) ?rest72027
    case hy72027 => (intro w hSw; (try dsimp only at hSw); go_simp; try with_reducible rfl)
    try simp only [Act.put, List.setIfInBounds_toArray, List.set_cons_zero, List.set_cons_succ]
    refine wpAnyH_take (i := 13) (oi := _) (v := ?v72028) (by simp only [List.getElem?_toArray, List.getElem?_cons_succ, List.getElem?_cons_zero]; rfl) (by kernel_rfl) (by kernel_rfl) (by kernel_rfl) (by exact fun _ _ _ h => h) (Or.inl ⟨by rfl, ?hy72028⟩) (by assumption) ?rest72028
    case hy72028 => (intro w hSw; (try dsimp only at hSw); go_simp; try with_reducible rfl)
    try simp only [Act.put, List.setIfInBounds_toArray, List.set_cons_zero, List.set_cons_succ]
    refine wpAnyH_done (by kernel_rfl) ?_ _
    go_wp2
    go_ret
    exact ⟨rfl, XW.out.chain Q2.out⟩
end Go.Proofs.YtiofgepfcacgjaaDoor
namespace Go.Proofs.YtiofgepfcacgjaaDoor
open Go.RowKit
set_option linter.unusedVariables false

theorem tvd (x : ByteArray) : tv x.data.toList = .string x := by simp [tv]
structure CliIn (w : World) : Prop where
  cli : CodeCli w
  client : CodeClient w
  conn : CodeConn w
  redir : CodeRedir w
theorem clientGood_go (x : CfgP) (A : Option Addr) (c : Nat) (A' : Option Addr) (c' : Nat) {w : World} (h : CfgIs w x A x.gClients.length c A' x.gConns.length c' ∧ x.fit) (hv : CliIn w) :
    Calls Tryd.prog 3 #[x.val A x.gClients.length c A' x.gConns.length c'] w fun e w' => e = .returned (.bool true) ∧ Below w.heap.size w w' :=
  clientGood_at hv.cli x A _ c A' _ c' h.1 h.2
theorem clientFinds_go (x : CfgP) (A : Option Addr) (c : Nat) (A' : Option Addr) (c' : Nat) (id sec : ByteArray) {w : World} (h : CfgIs w x A x.gClients.length c A' x.gConns.length c' ∧ x.fit) (_ : id.size ≤ 200000000000000) (hs : sec.size ≤ 200000000000000) (hv : CliIn w) :
    Calls Tryd.prog 4 #[x.val A x.gClients.length c A' x.gConns.length c', .string id, .string sec] w fun e w' => e = .returned (.bool true) ∧ Below w.heap.size w w' := by
  have := clientFinds_at hv.cli hv.client hv.conn x A _ c A' _ c' id.data.toList sec.data.toList h.1 h.2 (by have : sec.data.toList.length = sec.size := rfl; omega)
  rwa [tvd, tvd] at this
theorem clientRedirects_go (r : CliP) (u : Value) (s : ByteArray) {w : World} (h : RdT w u r.cReds ∧ r.fit) (_ : s.size ≤ 200000000000000) (hv : CliIn w) :
    Calls Tryd.prog 5 #[.agg #[tv r.cID, tv r.cSecret, u], .string s] w fun e w' => e = .returned (.bool true) ∧ Below w.heap.size w w' := by
  obtain ⟨hr, hf⟩ := h
  obtain ⟨A, c, rfl⟩ := rdt_form hr
  have := clientRedirects_at hv.cli hv.redir r A _ c s.data.toList rfl hf hr
  rwa [tvd] at this
theorem clientAuths_go (id sec : ByteArray) (n : Int) {w : World} (hi : id.size ≤ 200000000000000) (hs : sec.size ≤ 200000000000000) (hn : (Lit.int .u8 n).wf = true) (hv : CliIn w) :
    Calls Tryd.prog 6 #[.string id, .string sec, .int .u8 n] w fun e w' => e = .returned (.bool true) ∧ Below w.heap.size w w' := by
  have hb : 0 ≤ n ∧ n ≤ 255 := by simpa [Lit.wf, IntKind.min, IntKind.max, IntKind.signed, IntKind.bits] using hn
  have hi' : id.data.toList.length ≤ 200000000000000 := hi
  have hs' : sec.data.toList.length ≤ 200000000000000 := hs
  have := clientAuths_at hv.cli id.data.toList sec.data.toList n.toNat (by omega) (by omega) (by omega)
  rwa [show (⟨id.data.toList.toArray⟩ : ByteArray) = id by simp, show (⟨sec.data.toList.toArray⟩ : ByteArray) = sec by simp, show ((n.toNat : Nat) : Int) = n by omega] at this
theorem clientOwn_go (id to : ByteArray) {w : World} (hi : id.size ≤ 200000000000000) (ht : to.size ≤ 200000000000000) (hv : CliIn w) :
    Calls Tryd.prog 7 #[.string id, .string to] w fun e w' => e = .returned (.bool true) ∧ Below w.heap.size w w' := by
  have := clientOwn_at hv.cli hv.client id.data.toList to.data.toList hi ht
  rwa [tvd, tvd] at this
end Go.Proofs.YtiofgepfcacgjaaDoor
namespace Go.Proofs.YtiofgepfcacgjaaDoor
open Go.RowKit Go.Shelf
set_option linter.unusedVariables false
set_option linter.unusedSimpArgs false

theorem hit_find {α : Type} {l : List α} {p : α → Bool} {d : Nat → Bool} (hd : ∀ k (hk : k < l.length), d k = p l[k]) {i : Int} (h : HitAt l.length d i) : (∃ k, ∃ hk : k < l.length, i = k ∧ l.find? p = some l[k]) ∨ (i = -1 ∧ l.find? p = none) := by
  rcases h with ⟨k, hk, rfl, hp, hb⟩ | ⟨rfl, hn⟩
  · exact .inl ⟨k, hk, rfl, find_some hk (fun j hj hjk => by rw [← hd j hj]; exact hb j hjk) (by rw [← hd k hk]; exact hp)⟩
  · exact .inr ⟨rfl, find_none (k := l.length) (fun j hj hjk => by rw [← hd j hj]; exact hn j hj) (Nat.le_refl _)⟩
theorem ba_eqL (a b : List UInt8) : ((ByteArray.mk a.toArray).toList == (ByteArray.mk b.toArray).toList) = decide (a = b) := by
  rw [ByteArray.toList_eq, ByteArray.toList_eq, Bool.eq_iff_iff]
  simp
/-- what first answers -/
def FirstC (w : World) (l : List CliP) (id : List UInt8) (e : Ending) : Prop := (∃ r u, findCl l id = some r ∧ r ∈ l ∧ e = .returned (.tuple #[.agg #[tv r.cID, tv r.cSecret, u], .bool true]) ∧ RdT w u r.cReds) ∨ (findCl l id = none ∧ e = .returned (.tuple #[.agg #[.string ⟨#[]⟩, .string ⟨#[]⟩, .slice none 0 0], .bool false]))
set_option maxRecDepth 100000 in
set_option maxHeartbeats 4000000 in
theorem clientFirst_any (A : Option Addr) (c : Nat) (l : List CliP) (id : List UInt8) (hl : l.length ≤ 1000000) (w0 w : World) (hb0 : Below w0.heap.size w0 w) (hrd0 : RdCl w0 (.slice A l.length c) l) :
    Calls Tryd.prog 34 #[.slice A l.length c, .func (.func 23) #[] #[], .string ⟨id.toArray⟩] w fun e w' => FirstC w0 l id e ∧ Below w.heap.size w w' := by
  have e2 := enters_of Tryd.func56 (by kernel_rfl) rfl
  have hrd := hrd0.below hb0
  obtain ⟨X, hX⟩ : ∃ X, X = ((w.alloc (.cells #[.func (.func 23) #[] #[]] 46)).alloc (.cells #[.string ⟨id.toArray⟩] 9)).alloc (.cells #[.string ⟨#[]⟩, .string ⟨#[]⟩, .slice none 0 0] 32) := ⟨_, rfl⟩
  obtain ⟨b, hb⟩ : ∃ b, w.heap.size = b := ⟨_, rfl⟩
  have bX : Below w.heap.size w X := by rw [hX]; exact (((Below.refl _ _).alloc (Nat.le_refl _) _).alloc (by simp) _).alloc (by simp; omega) _
  have zX : X.heap.size = w.heap.size + 3 := by rw [hX]; simp
  have k0 : X.cell? ⟨b, 0, none⟩ = some (.func (.func 23) #[] #[]) := by rw [hX, ← hb]; exact cell_here (alloc_block (alloc_block (heap_alloc_last w _)))
  have k1 : X.cell? ⟨b + 1, 0, none⟩ = some (.string ⟨id.toArray⟩) := by rw [hX]; exact cell_here (alloc_block (fresh_at _ (by simp [hb])))
  have k2 : X.heap[b + 1 + 1]? = some (.cells #[.string ⟨#[]⟩, .string ⟨#[]⟩, .slice none 0 0] 32 (0, 0)) := by rw [hX]; exact fresh_at _ (by simp [hb])
  have hc := clientIndex_any A c l (by omega) 56 #[.pointer (some ⟨b, 0, none⟩), .pointer (some ⟨b + 1, 0, none⟩)] e2 (fun k => decide ((l.map (·.cID)).getD k [] = id)) X.heap.size (fun _ W => True) X
    (fun W hb => hrd.below (bX.trans (hb.mono (by omega)))) trivial (Nat.le_refl _)
    (fun k hk W u _ hbw hu => by
      obtain ⟨UA, uc, rfl⟩ := rdt_form hu
      refine (clientIs_any ⟨l[k].cID.toArray⟩ ⟨l[k].cSecret.toArray⟩ UA l[k].cReds.length uc ⟨id.toArray⟩ b (b + 1) W ((hbw.cell (p := ⟨b, 0, none⟩) (by show b < _; omega)).trans k0) ((hbw.cell (p := ⟨b + 1, 0, none⟩) (by show b + 1 < _; omega)).trans k1) (by have := hbw.size; omega) (by have := hbw.size; omega)).mono ?_
      rintro e w2 ⟨rfl, hb2⟩
      refine ⟨?_, trivial, hbw.chain hb2⟩
      rw [ba_eqL]
      simp [List.getD_eq_getElem?_getD, hk])
  have hfd : ∀ i, HitAt l.length (fun k => decide ((l.map (·.cID)).getD k [] = id)) i → _ := fun i h => hit_find (p := fun x => decide (x.cID = id)) (fun k hk => by simp [List.getD_eq_getElem?_getD, hk]) h
  obtain ⟨n, hn⟩ : ∃ n, l.length = n := ⟨_, rfl⟩
  have hc := hc.mono (fun e w' (h : _ ∧ _ ∧ _) => show (∃ i, e = .returned (.int .i64 i) ∧ ((∃ (k : Nat) (r : CliP), k < l.length ∧ i = k ∧ l[k]? = some r ∧ findCl l id = some r) ∨ (i = -1 ∧ findCl l id = none))) ∧ Below X.heap.size X w' from by
    obtain ⟨⟨i, he, hi⟩, _, hb⟩ := h
    refine ⟨⟨i, he, ?_⟩, hb⟩
    rcases hfd i hi with ⟨k, hk, e1, e2⟩ | h2
    · exact .inl ⟨k, _, hk, e1, List.getElem?_eq_getElem hk, e2⟩
    · exact .inr h2)
  have HRD := Lib.hid hrd0; have HX := Lib.hid hX; have BX := Lib.hid bX; have K2 := Lib.hid k2; have HC := Lib.hid hc; have HZ := Lib.hid zX; have B0 := Lib.hid hb0; have HN := Lib.hid hn
  clear hrd0 hrd hX bX zX k0 k1 k2 hc hfd e2 hb0
  rw [hn] at hl ⊢
  clear hn
  go_enter Tryd.func34, Tryd.ntmps34
  go_upto_region 1 with fail
  rw [← HX.out]
  have HC := HC.out
  rw [HN.out] at HC
  have HC := Lib.hid HC
  go_wp2_with fail
  refine HC.out.mono ?_
  rintro e w1 ⟨⟨i, rfl, hi⟩, hb1⟩
  have HB1 := Lib.hid hb1
  have z1 := hb1.size
  have zz := HZ.out
  obtain ⟨⟨p0, p1, p2⟩, ⟨q0, q1, q2⟩⟩ := cellsK3_of (blk_below K2.out hb1)
  have K21 := Lib.hid (blk_below K2.out hb1)
  clear hb1
  rcases hi with ⟨k, r, hkn, rfl, hkr, hf⟩ | ⟨rfl, hf⟩
  · have hk : k < l.length := by have := HN.out; omega
    obtain ⟨_, hr⟩ := List.getElem?_eq_some_iff.1 hkr
    clear hkr
    have HF := Lib.hid hf
    clear hf
    obtain ⟨a, o, u, rfl, hab, h1, h2, h3, hu⟩ := HRD.out.at k hk
    have h1 := (HB1.out.cell (p := ⟨a, o + k * 3, none⟩) (by have := B0.out.size; show a < _; omega)).trans ((BX.out.cell (p := ⟨a, o + k * 3, none⟩) (by have := B0.out.size; show a < _; omega)).trans ((B0.out.cell (p := ⟨a, o + k * 3, none⟩) hab).trans h1))
    have h2 := (HB1.out.cell (p := ⟨a, o + k * 3 + 1, none⟩) (by have := B0.out.size; show a < _; omega)).trans ((BX.out.cell (p := ⟨a, o + k * 3 + 1, none⟩) (by have := B0.out.size; show a < _; omega)).trans ((B0.out.cell (p := ⟨a, o + k * 3 + 1, none⟩) hab).trans h2))
    have h3 := (HB1.out.cell (p := ⟨a, o + k * 3 + 2, none⟩) (by have := B0.out.size; show a < _; omega)).trans ((BX.out.cell (p := ⟨a, o + k * 3 + 2, none⟩) (by have := B0.out.size; show a < _; omega)).trans ((B0.out.cell (p := ⟨a, o + k * 3 + 2, none⟩) hab).trans h3))
    obtain ⟨UA, uc, rfl⟩ := rdt_form hu
    have HU := Lib.hid hu; clear hu
    have hrm : r ∈ l := by rw [← hr]; exact List.getElem_mem hk
    rw [hr] at h1 h2 h3
    have HF2 : Hid (findCl l id = some r) := Lib.hid HF.out
    have HU2 : Hid (RdT w0 (.slice UA r.cReds.length uc) r.cReds) := Lib.hid (by have := HU.out; rwa [hr] at this)
    obtain ⟨nr, hnr⟩ : ∃ z, r.cReds.length = z := ⟨_, rfl⟩
    rw [hnr] at h3
    have HU3 : Hid (RdT w0 (.slice UA nr uc) r.cReds) := Lib.hid (by rw [← hnr]; exact HU2.out)
    obtain ⟨V0, hV0⟩ : ∃ B : ByteArray, tv r.cID = .string B := ⟨_, rfl⟩
    rw [hV0] at h1
    obtain ⟨V1, hV1⟩ : ∃ B : ByteArray, tv r.cSecret = .string B := ⟨_, rfl⟩
    rw [hV1] at h2
    have HV := Lib.hid (And.intro hV0 (hV1))
    have HRM := Lib.hid hrm
    clear hr hrm HF hV0 hV1 hnr HU2 HU
    have hk0 : (0 : Int) ≤ k := by omega
    have hk1 : (k : Int) < n := by omega
    have hk2 : ¬ (k : Int) < 0 := by omega
    go_wp2_with fail
    obtain ⟨wf, hwf⟩ : ∃ wf, wf = setK3 w1 (b + 1 + 1) (.string V0) (.string V1) (.slice UA nr uc) := ⟨_, rfl⟩
    change bodyPost _ _ _ _ _ (setK3 w1 (b + 1 + 1) (.string V0) (.string V1) (.slice UA nr uc))
    rw [← hwf]
    have hy : wf.heap[b + 1 + 1]? = some (.cells #[.string V0, .string V1, .slice UA nr uc] 32 (0, 0)) := by rw [hwf]; exact setK3_here K21.out
    have hbf : Below w.heap.size X wf := by rw [hwf]; exact setK3_below (HB1.out.mono (by omega)) (by have := hb; omega) (.string V0) (.string V1) (.slice UA nr uc)
    obtain ⟨⟨y0, y1, y2⟩, -⟩ := cellsK3_of hy
    have HBF := Lib.hid (BX.out.trans hbf)
    clear hwf hy hbf p0 p1 p2 q0 q1 q2
    refine bodyPost_ret (v := .tuple #[.agg #[.string V0, .string V1, .slice UA nr uc], .bool true]) (by simp [results, Tryd.results34, go_sem, y0, y1, y2]) rfl ⟨?_, HBF.out⟩
    obtain ⟨hV0, hV1⟩ := HV.out
    exact .inl ⟨r, _, HF2.out, HRM.out, by rw [hV0, hV1], HU3.out⟩
  · have HF := Lib.hid hf
    clear hf p0 p1 p2 q0 q1 q2
    have KA : Hid ((w1.alloc (.cells #[.string ⟨#[]⟩, .string ⟨#[]⟩, .slice none 0 0] 32)).heap[b + 1 + 1]? = some (.cells #[.string ⟨#[]⟩, .string ⟨#[]⟩, .slice none 0 0] 32 (0, 0))) := Lib.hid (alloc_block K21.out)
    obtain ⟨⟨p0, p1, p2⟩, ⟨q0, q1, q2⟩⟩ := cellsK3_of KA.out
    go_wp2_with fail
    obtain ⟨wf, hwf⟩ : ∃ wf, wf = setK3 (w1.alloc (.cells #[.string ⟨#[]⟩, .string ⟨#[]⟩, .slice none 0 0] 32)) (b + 1 + 1) (.string ⟨#[]⟩) (.string ⟨#[]⟩) (.slice none 0 0) := ⟨_, rfl⟩
    change bodyPost _ _ _ _ _ (setK3 (w1.alloc (.cells #[.string ⟨#[]⟩, .string ⟨#[]⟩, .slice none 0 0] 32)) (b + 1 + 1) (.string ⟨#[]⟩) (.string ⟨#[]⟩) (.slice none 0 0))
    rw [← hwf]
    have hy : wf.heap[b + 1 + 1]? = some (.cells #[.string ⟨#[]⟩, .string ⟨#[]⟩, .slice none 0 0] 32 (0, 0)) := by rw [hwf]; exact setK3_here KA.out
    have hbf : Below w.heap.size X wf := by rw [hwf]; exact setK3_below ((HB1.out.mono (by omega)).alloc (by omega) _) (by have := hb; omega) (.string ⟨#[]⟩) (.string ⟨#[]⟩) (.slice none 0 0)
    obtain ⟨⟨y0, y1, y2⟩, -⟩ := cellsK3_of hy
    have HBF := Lib.hid (BX.out.trans hbf)
    clear hwf hy hbf p0 p1 p2 q0 q1 q2
    refine bodyPost_ret (v := .tuple #[.agg #[.string ⟨#[]⟩, .string ⟨#[]⟩, .slice none 0 0], .bool false]) (by simp [results, Tryd.results34, go_sem, y0, y1, y2]) rfl ⟨?_, HBF.out⟩
    exact .inr ⟨HF.out, rfl⟩
/-- what first answers -/
def FirstN (w : World) (l : List ConnP) (id : List UInt8) (e : Ending) : Prop := (∃ r, findCn l id = some r ∧ r ∈ l ∧ e = .returned (.tuple #[r.val, .bool true])) ∨ (findCn l id = none ∧ e = .returned (.tuple #[.agg #[.string ⟨#[]⟩, .string ⟨#[]⟩, .string ⟨#[]⟩, .string ⟨#[]⟩, .string ⟨#[]⟩, .bool false, .string ⟨#[]⟩], .bool false]))
set_option maxRecDepth 100000 in
set_option maxHeartbeats 4000000 in
theorem connFirst_any (A : Option Addr) (c : Nat) (l : List ConnP) (id : List UInt8) (hl : l.length ≤ 1000000) (w0 w : World) (hb0 : Below w0.heap.size w0 w) (hrd0 : RdCn w0 (.slice A l.length c) l) :
    Calls Tryd.prog 36 #[.slice A l.length c, .func (.func 27) #[] #[], .string ⟨id.toArray⟩] w fun e w' => FirstN w0 l id e ∧ Below w.heap.size w w' := by
  have e2 := enters_of Tryd.func58 (by kernel_rfl) rfl
  have hrd := hrd0.below hb0
  obtain ⟨X, hX⟩ : ∃ X, X = ((w.alloc (.cells #[.func (.func 27) #[] #[]] 50)).alloc (.cells #[.string ⟨id.toArray⟩] 9)).alloc (.cells #[.string ⟨#[]⟩, .string ⟨#[]⟩, .string ⟨#[]⟩, .string ⟨#[]⟩, .string ⟨#[]⟩, .bool false, .string ⟨#[]⟩] 36) := ⟨_, rfl⟩
  obtain ⟨b, hb⟩ : ∃ b, w.heap.size = b := ⟨_, rfl⟩
  have bX : Below w.heap.size w X := by rw [hX]; exact (((Below.refl _ _).alloc (Nat.le_refl _) _).alloc (by simp) _).alloc (by simp; omega) _
  have zX : X.heap.size = w.heap.size + 3 := by rw [hX]; simp
  have k0 : X.cell? ⟨b, 0, none⟩ = some (.func (.func 27) #[] #[]) := by rw [hX, ← hb]; exact cell_here (alloc_block (alloc_block (heap_alloc_last w _)))
  have k1 : X.cell? ⟨b + 1, 0, none⟩ = some (.string ⟨id.toArray⟩) := by rw [hX]; exact cell_here (alloc_block (fresh_at _ (by simp [hb])))
  have k2 : X.heap[b + 1 + 1]? = some (.cells #[.string ⟨#[]⟩, .string ⟨#[]⟩, .string ⟨#[]⟩, .string ⟨#[]⟩, .string ⟨#[]⟩, .bool false, .string ⟨#[]⟩] 36 (0, 0)) := by rw [hX]; exact fresh_at _ (by simp [hb])
  have hc := connIndex_any A c l (by omega) 58 #[.pointer (some ⟨b, 0, none⟩), .pointer (some ⟨b + 1, 0, none⟩)] e2 (fun k => decide ((l.map (·.fID)).getD k [] = id)) X.heap.size (fun _ W => True) X
    (fun W hb => hrd.below (bX.trans (hb.mono (by omega)))) trivial (Nat.le_refl _)
    (fun k hk W _ hbw => by
      refine (connIs_any ⟨l[k].fID.toArray⟩ ⟨l[k].fIssuer.toArray⟩ ⟨l[k].fClient.toArray⟩ ⟨l[k].fAuth.toArray⟩ ⟨l[k].fSecret.toArray⟩ l[k].fOpen ⟨l[k].fRules.toArray⟩ ⟨id.toArray⟩ b (b + 1) W ((hbw.cell (p := ⟨b, 0, none⟩) (by show b < _; omega)).trans k0) ((hbw.cell (p := ⟨b + 1, 0, none⟩) (by show b + 1 < _; omega)).trans k1) (by have := hbw.size; omega) (by have := hbw.size; omega)).mono ?_
      rintro e w2 ⟨rfl, hb2⟩
      refine ⟨?_, trivial, hbw.chain hb2⟩
      rw [ba_eqL]
      simp [List.getD_eq_getElem?_getD, hk])
  have hfd : ∀ i, HitAt l.length (fun k => decide ((l.map (·.fID)).getD k [] = id)) i → _ := fun i h => hit_find (p := fun x => decide (x.fID = id)) (fun k hk => by simp [List.getD_eq_getElem?_getD, hk]) h
  obtain ⟨n, hn⟩ : ∃ n, l.length = n := ⟨_, rfl⟩
  have hc := hc.mono (fun e w' (h : _ ∧ _ ∧ _) => show (∃ i, e = .returned (.int .i64 i) ∧ ((∃ (k : Nat) (r : ConnP), k < l.length ∧ i = k ∧ l[k]? = some r ∧ findCn l id = some r) ∨ (i = -1 ∧ findCn l id = none))) ∧ Below X.heap.size X w' from by
    obtain ⟨⟨i, he, hi⟩, _, hb⟩ := h
    refine ⟨⟨i, he, ?_⟩, hb⟩
    rcases hfd i hi with ⟨k, hk, e1, e2⟩ | h2
    · exact .inl ⟨k, _, hk, e1, List.getElem?_eq_getElem hk, e2⟩
    · exact .inr h2)
  have HRD := Lib.hid hrd0; have HX := Lib.hid hX; have BX := Lib.hid bX; have K2 := Lib.hid k2; have HC := Lib.hid hc; have HZ := Lib.hid zX; have B0 := Lib.hid hb0; have HN := Lib.hid hn
  clear hrd0 hrd hX bX zX k0 k1 k2 hc hfd e2 hb0
  rw [hn] at hl ⊢
  clear hn
  go_enter Tryd.func36, Tryd.ntmps36
  go_upto_region 1 with fail
  rw [← HX.out]
  have HC := HC.out
  rw [HN.out] at HC
  have HC := Lib.hid HC
  go_wp2_with fail
  refine HC.out.mono ?_
  rintro e w1 ⟨⟨i, rfl, hi⟩, hb1⟩
  have HB1 := Lib.hid hb1
  have z1 := hb1.size
  have zz := HZ.out
  obtain ⟨⟨p0, p1, p2, p3, p4, p5, p6⟩, ⟨q0, q1, q2, q3, q4, q5, q6⟩⟩ := cellsK7_of (blk_below K2.out hb1)
  have K21 := Lib.hid (blk_below K2.out hb1)
  clear hb1
  rcases hi with ⟨k, r, hkn, rfl, hkr, hf⟩ | ⟨rfl, hf⟩
  · have hk : k < l.length := by have := HN.out; omega
    obtain ⟨_, hr⟩ := List.getElem?_eq_some_iff.1 hkr
    clear hkr
    have HF := Lib.hid hf
    clear hf
    obtain ⟨a, o, rfl, hab, h1, h2, h3, h4, h5, h6, h7⟩ := HRD.out.at k hk
    have h1 := (HB1.out.cell (p := ⟨a, o + k * 7, none⟩) (by have := B0.out.size; show a < _; omega)).trans ((BX.out.cell (p := ⟨a, o + k * 7, none⟩) (by have := B0.out.size; show a < _; omega)).trans ((B0.out.cell (p := ⟨a, o + k * 7, none⟩) hab).trans h1))
    have h2 := (HB1.out.cell (p := ⟨a, o + k * 7 + 1, none⟩) (by have := B0.out.size; show a < _; omega)).trans ((BX.out.cell (p := ⟨a, o + k * 7 + 1, none⟩) (by have := B0.out.size; show a < _; omega)).trans ((B0.out.cell (p := ⟨a, o + k * 7 + 1, none⟩) hab).trans h2))
    have h3 := (HB1.out.cell (p := ⟨a, o + k * 7 + 2, none⟩) (by have := B0.out.size; show a < _; omega)).trans ((BX.out.cell (p := ⟨a, o + k * 7 + 2, none⟩) (by have := B0.out.size; show a < _; omega)).trans ((B0.out.cell (p := ⟨a, o + k * 7 + 2, none⟩) hab).trans h3))
    have h4 := (HB1.out.cell (p := ⟨a, o + k * 7 + 3, none⟩) (by have := B0.out.size; show a < _; omega)).trans ((BX.out.cell (p := ⟨a, o + k * 7 + 3, none⟩) (by have := B0.out.size; show a < _; omega)).trans ((B0.out.cell (p := ⟨a, o + k * 7 + 3, none⟩) hab).trans h4))
    have h5 := (HB1.out.cell (p := ⟨a, o + k * 7 + 4, none⟩) (by have := B0.out.size; show a < _; omega)).trans ((BX.out.cell (p := ⟨a, o + k * 7 + 4, none⟩) (by have := B0.out.size; show a < _; omega)).trans ((B0.out.cell (p := ⟨a, o + k * 7 + 4, none⟩) hab).trans h5))
    have h6 := (HB1.out.cell (p := ⟨a, o + k * 7 + 5, none⟩) (by have := B0.out.size; show a < _; omega)).trans ((BX.out.cell (p := ⟨a, o + k * 7 + 5, none⟩) (by have := B0.out.size; show a < _; omega)).trans ((B0.out.cell (p := ⟨a, o + k * 7 + 5, none⟩) hab).trans h6))
    have h7 := (HB1.out.cell (p := ⟨a, o + k * 7 + 6, none⟩) (by have := B0.out.size; show a < _; omega)).trans ((BX.out.cell (p := ⟨a, o + k * 7 + 6, none⟩) (by have := B0.out.size; show a < _; omega)).trans ((B0.out.cell (p := ⟨a, o + k * 7 + 6, none⟩) hab).trans h7))
    have hrm : r ∈ l := by rw [← hr]; exact List.getElem_mem hk
    rw [hr] at h1 h2 h3 h4 h5 h6 h7
    have HF2 : Hid (findCn l id = some r) := Lib.hid HF.out
    obtain ⟨V0, hV0⟩ : ∃ B : ByteArray, tv r.fID = .string B := ⟨_, rfl⟩
    rw [hV0] at h1
    obtain ⟨V1, hV1⟩ : ∃ B : ByteArray, tv r.fIssuer = .string B := ⟨_, rfl⟩
    rw [hV1] at h2
    obtain ⟨V2, hV2⟩ : ∃ B : ByteArray, tv r.fClient = .string B := ⟨_, rfl⟩
    rw [hV2] at h3
    obtain ⟨V3, hV3⟩ : ∃ B : ByteArray, tv r.fAuth = .string B := ⟨_, rfl⟩
    rw [hV3] at h4
    obtain ⟨V4, hV4⟩ : ∃ B : ByteArray, tv r.fSecret = .string B := ⟨_, rfl⟩
    rw [hV4] at h5
    obtain ⟨V6, hV6⟩ : ∃ B : ByteArray, tv r.fRules = .string B := ⟨_, rfl⟩
    rw [hV6] at h7
    have HV := Lib.hid (And.intro hV0 (And.intro hV1 (And.intro hV2 (And.intro hV3 (And.intro hV4 hV6)))))
    have HRM := Lib.hid hrm
    clear hr hrm HF hV0 hV1 hV2 hV3 hV4 hV6 
    have hk0 : (0 : Int) ≤ k := by omega
    have hk1 : (k : Int) < n := by omega
    have hk2 : ¬ (k : Int) < 0 := by omega
    go_wp2_with fail
    obtain ⟨wf, hwf⟩ : ∃ wf, wf = setK7 w1 (b + 1 + 1) (.string V0) (.string V1) (.string V2) (.string V3) (.string V4) (.bool r.fOpen) (.string V6) := ⟨_, rfl⟩
    change bodyPost _ _ _ _ _ (setK7 w1 (b + 1 + 1) (.string V0) (.string V1) (.string V2) (.string V3) (.string V4) (.bool r.fOpen) (.string V6))
    rw [← hwf]
    have hy : wf.heap[b + 1 + 1]? = some (.cells #[.string V0, .string V1, .string V2, .string V3, .string V4, .bool r.fOpen, .string V6] 36 (0, 0)) := by rw [hwf]; exact setK7_here K21.out
    have hbf : Below w.heap.size X wf := by rw [hwf]; exact setK7_below (HB1.out.mono (by omega)) (by have := hb; omega) (.string V0) (.string V1) (.string V2) (.string V3) (.string V4) (.bool r.fOpen) (.string V6)
    obtain ⟨⟨y0, y1, y2, y3, y4, y5, y6⟩, -⟩ := cellsK7_of hy
    have HBF := Lib.hid (BX.out.trans hbf)
    clear hwf hy hbf p0 p1 p2 p3 p4 p5 p6 q0 q1 q2 q3 q4 q5 q6
    refine bodyPost_ret (v := .tuple #[.agg #[.string V0, .string V1, .string V2, .string V3, .string V4, .bool r.fOpen, .string V6], .bool true]) (by simp [results, Tryd.results36, go_sem, y0, y1, y2, y3, y4, y5, y6]) rfl ⟨?_, HBF.out⟩
    obtain ⟨hV0, hV1, hV2, hV3, hV4, hV6⟩ := HV.out
    exact .inl ⟨r, HF2.out, HRM.out, by unfold ConnP.val; rw [hV0, hV1, hV2, hV3, hV4, hV6]⟩
  · have HF := Lib.hid hf
    clear hf p0 p1 p2 p3 p4 p5 p6 q0 q1 q2 q3 q4 q5 q6
    have KA : Hid ((w1.alloc (.cells #[.string ⟨#[]⟩, .string ⟨#[]⟩, .string ⟨#[]⟩, .string ⟨#[]⟩, .string ⟨#[]⟩, .bool false, .string ⟨#[]⟩] 36)).heap[b + 1 + 1]? = some (.cells #[.string ⟨#[]⟩, .string ⟨#[]⟩, .string ⟨#[]⟩, .string ⟨#[]⟩, .string ⟨#[]⟩, .bool false, .string ⟨#[]⟩] 36 (0, 0))) := Lib.hid (alloc_block K21.out)
    obtain ⟨⟨p0, p1, p2, p3, p4, p5, p6⟩, ⟨q0, q1, q2, q3, q4, q5, q6⟩⟩ := cellsK7_of KA.out
    go_wp2_with fail
    obtain ⟨wf, hwf⟩ : ∃ wf, wf = setK7 (w1.alloc (.cells #[.string ⟨#[]⟩, .string ⟨#[]⟩, .string ⟨#[]⟩, .string ⟨#[]⟩, .string ⟨#[]⟩, .bool false, .string ⟨#[]⟩] 36)) (b + 1 + 1) (.string ⟨#[]⟩) (.string ⟨#[]⟩) (.string ⟨#[]⟩) (.string ⟨#[]⟩) (.string ⟨#[]⟩) (.bool false) (.string ⟨#[]⟩) := ⟨_, rfl⟩
    change bodyPost _ _ _ _ _ (setK7 (w1.alloc (.cells #[.string ⟨#[]⟩, .string ⟨#[]⟩, .string ⟨#[]⟩, .string ⟨#[]⟩, .string ⟨#[]⟩, .bool false, .string ⟨#[]⟩] 36)) (b + 1 + 1) (.string ⟨#[]⟩) (.string ⟨#[]⟩) (.string ⟨#[]⟩) (.string ⟨#[]⟩) (.string ⟨#[]⟩) (.bool false) (.string ⟨#[]⟩))
    rw [← hwf]
    have hy : wf.heap[b + 1 + 1]? = some (.cells #[.string ⟨#[]⟩, .string ⟨#[]⟩, .string ⟨#[]⟩, .string ⟨#[]⟩, .string ⟨#[]⟩, .bool false, .string ⟨#[]⟩] 36 (0, 0)) := by rw [hwf]; exact setK7_here KA.out
    have hbf : Below w.heap.size X wf := by rw [hwf]; exact setK7_below ((HB1.out.mono (by omega)).alloc (by omega) _) (by have := hb; omega) (.string ⟨#[]⟩) (.string ⟨#[]⟩) (.string ⟨#[]⟩) (.string ⟨#[]⟩) (.string ⟨#[]⟩) (.bool false) (.string ⟨#[]⟩)
    obtain ⟨⟨y0, y1, y2, y3, y4, y5, y6⟩, -⟩ := cellsK7_of hy
    have HBF := Lib.hid (BX.out.trans hbf)
    clear hwf hy hbf p0 p1 p2 p3 p4 p5 p6 q0 q1 q2 q3 q4 q5 q6
    refine bodyPost_ret (v := .tuple #[.agg #[.string ⟨#[]⟩, .string ⟨#[]⟩, .string ⟨#[]⟩, .string ⟨#[]⟩, .string ⟨#[]⟩, .bool false, .string ⟨#[]⟩], .bool false]) (by simp [results, Tryd.results36, go_sem, y0, y1, y2, y3, y4, y5, y6]) rfl ⟨?_, HBF.out⟩
    exact .inr ⟨HF.out, rfl⟩
end Go.Proofs.YtiofgepfcacgjaaDoor
