/- Texts merged by program, in build order: LawCliA. -/
import Derived.Test.YtiofgepfcacgjaaDoorG03
import Derived.Test.YtiofgepfcacgjaaDoorG02
import Derived.Deep.RegionLaw
import Derived.Deep.RegionWith
import Derived.Deep.Cut
set_option linter.unusedVariables false
set_option linter.unusedSimpArgs false
namespace Go.Proofs.YtiofgepfcacgjaaDoor
open Go.RowKit
set_option linter.unusedVariables false
set_option linter.unusedSimpArgs false

/-- a config of one client that is sent nowhere -/
def cfgA (id sec : List UInt8) : CfgP := ⟨[], [], [], [⟨id, sec, []⟩], []⟩
theorem authA (id sec a b : List UInt8) : authP (cfgA id sec) a b = (decide (id = a) && (decide (sec ≠ []) && decide (sec = b))) := by
  unfold authP cfgA findCl
  by_cases h : id = a
  · simp [h]
  · simp [h]
set_option maxRecDepth 100000 in
set_option maxHeartbeats 8000000 in
theorem clientAuths_at {w : World} (K : CodeCli w) (id sec : List UInt8) (cut : Nat) (hc : cut < 256) (hi : id.length ≤ 1000000000000000) (hs : sec.length ≤ 1000000000000000) :
    Calls Tryd.prog 6 #[.string ⟨id.toArray⟩, .string ⟨sec.toArray⟩, .int .u8 (cut : Int)] w fun e w' => e = .returned (.bool true) ∧ Below w.heap.size w w' := by
  obtain ⟨I, hI⟩ : ∃ I : ByteArray, (⟨id.toArray⟩ : ByteArray) = I := ⟨_, rfl⟩
  obtain ⟨Z, hZ⟩ : ∃ Z : ByteArray, (⟨sec.toArray⟩ : ByteArray) = Z := ⟨_, rfl⟩
  have hIs : I.size = id.length := by rw [← hI]; show id.toArray.size = _; simp
  have hZs : Z.size = sec.length := by rw [← hZ]; show sec.toArray.size = _; simp
  have hw : IntKind.i64.wrap ((I.size : Int) + (Z.size : Int)) = (I.size : Int) + (Z.size : Int) := by rw [IntKind.wrap_i64]; omega
  have ANS : ∀ W, Below w.heap.size w W → Calls Tryd.prog 8 #[] W fun e w' => e = .returned (.bool true) ∧ Below W.heap.size W w' := fun W hb => answers16_any (K.later hb)
  have AUTH := K.auth
  by_cases h5 : 500 < id.length + sec.length
  · have hd : decide ((500 : Int) < (I.size : Int) + (Z.size : Int)) = true := by simp; omega
    rw [hI, hZ]
    have HA := Lib.hid (ANS w (Below.refl _ _))
    clear ANS AUTH K
    go_enter Tryd.func6, Tryd.ntmps6
    go_wp2_with (go_at_call 8; (with_reducible refine HA.out.mono ?_); rintro e1 w1 ⟨rfl, hb1⟩; have B1 := Lib.hid hb1; clear hb1; dsimp only)
    go_ret
    exact ⟨rfl, B1.out⟩
  have hd : decide ((500 : Int) < (I.size : Int) + (Z.size : Int)) = false := by simp; omega
  -- the config, in memory
  obtain ⟨X, hX⟩ : ∃ X, (w.alloc (.cells #[.string I, .string Z, .slice none 0 0] 32)).alloc (.cells #[.string ⟨#[]⟩, .string ⟨#[]⟩, .string ⟨#[]⟩, .slice (some ⟨w.heap.size, 0, none⟩) 1 1, .slice none 0 0] 27) = X := ⟨_, rfl⟩
  have bX : Below w.heap.size w X := by rw [← hX]; exact ((Below.refl _ _).alloc (Nat.le_refl _) _).alloc (by simp) _
  have x1 : X.heap[w.heap.size]? = some (.cells #[.string I, .string Z, .slice none 0 0] 32 (0, 0)) := by rw [← hX]; exact alloc_block (heap_alloc_last w _)
  have x2 : X.heap[w.heap.size + 1]? = some (.cells #[.string ⟨#[]⟩, .string ⟨#[]⟩, .string ⟨#[]⟩, .slice (some ⟨w.heap.size, 0, none⟩) 1 1, .slice none 0 0] 27 (0, 0)) := by rw [← hX]; exact fresh_at _ (by simp)
  have hcf : ∀ W, Below X.heap.size X W → CfgIs W (cfgA id sec) (some ⟨w.heap.size, 0, none⟩) 1 1 none 0 0 := fun W hb => by
    have k1 := blk_below x1 hb
    refine ⟨rfl, rfl, ⟨_, _, rfl, Nat.le_refl _, fun k r hk => ?_⟩, ⟨_, _, rfl, Nat.le_refl _, fun k r hk => by cases hk⟩⟩
    obtain ⟨hkl, rfl⟩ := List.getElem?_eq_some_iff.1 hk
    obtain rfl : k = 0 := by simp [cfgA] at hkl; omega
    refine ⟨w.heap.size, 0, .slice none 0 0, rfl, (Array.getElem?_eq_some_iff.1 k1).1, ?_, ?_, cell_here k1, ⟨none, 0, rfl, Nat.le_refl _, fun j x hj => by cases hj⟩⟩
    · rw [cell_here k1]; show some (Value.string I) = some (.string ⟨id.toArray⟩); rw [hI]
    · rw [cell_here k1]; show some (Value.string Z) = some (.string ⟨sec.toArray⟩); rw [hZ]
  have hft : (cfgA id sec).fitS := fit_one (by omega) (by omega) (by decide) (fun s hs => by cases hs)
  have h1 := fun W (hb : Below X.heap.size X W) => AUTH W (bX.chain hb) _ _ _ _ _ _ _ id sec (hcf W hb) hft.1 (show 1 ≤ 20 by decide) (by omega)
  have h2 := fun (k : Nat) W (hb : Below X.heap.size X W) => AUTH W (bX.chain hb) _ _ _ _ _ _ _ id (sec.take k) (hcf W hb) hft.1 (show 1 ≤ 20 by decide) (by rw [List.length_take]; omega)
  have h3 := fun W (hb : Below X.heap.size X W) => AUTH W (bX.chain hb) _ _ _ _ _ _ _ id (sec ++ [120]) (hcf W hb) hft.1 (show 1 ≤ 20 by decide) (by rw [List.length_append, List.length_singleton]; omega)
  have h4 := fun W (hb : Below X.heap.size X W) => AUTH W (bX.chain hb) _ _ _ _ _ _ _ (id ++ [120]) sec (hcf W hb) hft.1 (show 1 ≤ 20 by decide) (by omega)
  have hv : (cfgA id sec).val (some ⟨w.heap.size, 0, none⟩) 1 1 none 0 0 = .agg #[.string ⟨#[]⟩, .string ⟨#[]⟩, .string ⟨#[]⟩, .slice (some ⟨w.heap.size, 0, none⟩) 1 1, .slice none 0 0] := rfl
  have hne3 : sec ≠ sec ++ [120] := fun e => by have := congrArg List.length e; simp at this
  have hne4 : id ≠ id ++ [120] := fun e => by have := congrArg List.length e; simp at this
  have a3 : authP (cfgA id sec) id (sec ++ [120]) = false := by rw [authA]; simp [hne3]
  have a4 : authP (cfgA id sec) (id ++ [120]) sec = false := by rw [authA]; simp [hne4]
  have i3 : (⟨(sec ++ [120]).toArray⟩ : ByteArray) = Z ++ ⟨#[120]⟩ := by rw [← hZ]; apply ByteArray.ext; simp [ByteArray.data_append]
  have i4 : (⟨(id ++ [120]).toArray⟩ : ByteArray) = I ++ ⟨#[120]⟩ := by rw [← hI]; apply ByteArray.ext; simp [ByteArray.data_append]
  unfold tv at h1 h2 h3 h4
  rw [hv, hI, hZ] at h1
  rw [hv, a3, hI, i3] at h3
  rw [hv, a4, i4, hZ] at h4
  have hcb : ∀ W, Below X.heap.size X W → (  W.cell? ⟨w.heap.size + 1, 0, none⟩ = some (.string ⟨#[]⟩) ∧ W.cell? ⟨w.heap.size + 1, 1, none⟩ = some (.string ⟨#[]⟩) ∧ W.cell? ⟨w.heap.size + 1, 2, none⟩ = some (.string ⟨#[]⟩) ∧ W.cell? ⟨w.heap.size + 1, 3, none⟩ = some (.slice (some ⟨w.heap.size, 0, none⟩) 1 1) ∧ W.cell? ⟨w.heap.size + 1, 4, none⟩ = some (.slice none 0 0)) := fun W hb => by
    have k2 := blk_below x2 hb
    exact ⟨cell_here k2, cell_here k2, cell_here k2, cell_here k2, cell_here k2⟩
  have HA := Lib.hid (fun W (hb : Below X.heap.size X W) => ANS W (bX.chain hb))
  have H3 := Lib.hid h3; have H4 := Lib.hid h4; have HCB := Lib.hid hcb; have XW := Lib.hid bX
  obtain ⟨k, hkk, hk2, hk3, hkm⟩ : ∃ k : Nat, k ≤ Z.size ∧ (Z.size ≠ 0 → k < Z.size) ∧ (Z.size = 0 → k = 0) ∧ (Z.size ≠ 0 → Int.tmod (cut : Int) (Z.size : Int) = (k : Int)) := by
    by_cases h : Z.size = 0
    · exact ⟨0, by omega, fun e => absurd h e, fun _ => rfl, fun e => absurd h e⟩
    · refine ⟨cut % Z.size, Nat.le_of_lt (Nat.mod_lt _ (by omega)), fun _ => Nat.mod_lt _ (by omega), fun e => absurd e h, fun _ => ?_⟩
      rw [Int.tmod_eq_emod_of_nonneg (by omega)]; omega
  have a2 : authP (cfgA id sec) id (sec.take k) = false := by
    rw [authA]
    by_cases h : sec = []
    · simp [h]
    · have : sec ≠ sec.take k := fun e => by
        have h6 := congrArg List.length e
        rw [List.length_take] at h6
        have h7 : sec.length ≠ 0 := fun e => h (List.eq_nil_of_length_eq_zero e)
        have := hk2 (by omega)
        omega
      simp [this]
  have i2 : (⟨(sec.take k).toArray⟩ : ByteArray) = Z.extract 0 k := by rw [← hZ]; apply ByteArray.ext; simp
  have h2k := h2 k
  rw [hv, a2, hI, i2] at h2k
  have H2 := Lib.hid h2k
  have a1 : authP (cfgA id sec) id sec = !sec.isEmpty := by
    rw [authA]
    cases sec <;> simp
  rw [a1] at h1
  have hl : Z.toList = sec := by rw [← hZ]; simp
  obtain ⟨em, hem⟩ : ∃ b, sec.isEmpty = b := ⟨_, rfl⟩
  have hem2 : Z.toList.isEmpty = em := by rw [hl]; exact hem
  rw [hem] at h1
  have H1 := Lib.hid h1
  rw [hI, hZ]
  have hbool : ((!em) == (!em)) = true := by simp
  by_cases hz0 : Z.size = 0
  · have hzz : ¬ 0 < Z.size := by omega
    have hzb : Z.size ≤ 500 := by omega
    have hib : I.size ≤ 500 := by omega
    obtain rfl : k = 0 := hk3 hz0
    have hkle : (0 : Int) ≤ Z.size := by omega
    have h2z := H2.out
    rw [show Z.extract 0 0 = ByteArray.empty by apply ByteArray.ext; simp] at h2z
    clear H2
    have H2 := Lib.hid h2z
    clear h2z
    clear h1 h2 h3 h4 h2k hcb hcf x1 x2 bX a1 a2 a3 a4 i2 i3 i4 hv hne3 hne4 hk2 hk3 hkm hl hem ANS AUTH K hft hI hZ hIs hZs hi hs h5 hz0
    have HXE := Lib.hid hX
    clear hX
    go_enter Tryd.func6, Tryd.ntmps6
    go_upto_region 7 with fail
    rw [HXE.out]
    refine wp_region_held_drew (S := (fun W =>  W.cell? ⟨w.heap.size + 1, 0, none⟩ = some (.string ⟨#[]⟩) ∧ W.cell? ⟨w.heap.size + 1, 1, none⟩ = some (.string ⟨#[]⟩) ∧ W.cell? ⟨w.heap.size + 1, 2, none⟩ = some (.string ⟨#[]⟩) ∧ W.cell? ⟨w.heap.size + 1, 3, none⟩ = some (.slice (some ⟨w.heap.size, 0, none⟩) 1 1) ∧ W.cell? ⟨w.heap.size + 1, 4, none⟩ = some (.slice none 0 0))) (by kernel_rfl) (HCB.out _ (Below.refl X.heap.size X).drew) (fun hHeld => ?_)
    refine wpAnyH_ready (rs := [0]) (by kernel_rfl) (by simp) ?_
    refine AllReadyH.cons (o := _) (by simp only [List.getElem?_toArray, List.getElem?_cons_succ, List.getElem?_cons_zero]; rfl) (fun K hK => ?_) AllReadyH.nil
    go_simp
    go_at_call 8
    (with_reducible refine (HA.out _ ((Below.refl X.heap.size X).drew)).mono ?_)
    rintro e w1 ⟨rfl, hb1⟩
    have Q1 := Lib.hid (((Below.refl X.heap.size X).drew).chain hb1)
    clear hb1
    dsimp only
    refine hK.out _ _ (HCB.out _ Q1.out) (fun hHeld => ?_)
    clear hK K
    try simp only [Act.put, List.setIfInBounds_toArray, List.set_cons_zero, List.set_cons_succ]
    refine wpAnyH_take (i := 1) (oi := _) (v := ?v71002) (by simp only [List.getElem?_toArray, List.getElem?_cons_succ, List.getElem?_cons_zero]; rfl) (by kernel_rfl) (by kernel_rfl) (by kernel_rfl) (by exact fun _ _ _ h => h) (Or.inl ⟨by rfl, ?hy71002⟩) (by assumption) ?rest71002
    case hy71002 => (intro w hSw; (try dsimp only at hSw); go_simp; first | with_reducible rfl | (rw [if_neg (by omega)]))
    try simp only [Act.put, List.setIfInBounds_toArray, List.set_cons_zero, List.set_cons_succ]
    refine wpAnyH_take (i := 2) (oi := _) (v := ?v71003) (by simp only [List.getElem?_toArray, List.getElem?_cons_succ, List.getElem?_cons_zero]; rfl) (by kernel_rfl) (by kernel_rfl) (by kernel_rfl) (by exact fun _ _ _ h => h) (Or.inl ⟨by rfl, ?hy71003⟩) (by assumption) ?rest71003
    case hy71003 => (intro w hSw; (try dsimp only at hSw); go_simp; first | with_reducible rfl | (rw [if_neg (by omega)]))
    try simp only [Act.put, List.setIfInBounds_toArray, List.set_cons_zero, List.set_cons_succ]
    refine wpAnyH_take (i := 3) (oi := _) (v := ?v71004) (by simp only [List.getElem?_toArray, List.getElem?_cons_succ, List.getElem?_cons_zero]; rfl) (by kernel_rfl) (by kernel_rfl) (by kernel_rfl) (by exact fun _ _ _ h => h) (Or.inl ⟨by rfl, ?hy71004⟩) (by assumption) ?rest71004
    case hy71004 => (intro w hSw; (try dsimp only at hSw); go_simp; first | with_reducible rfl | (rw [if_neg (by omega)]))
    try simp only [Act.put, List.setIfInBounds_toArray, List.set_cons_zero, List.set_cons_succ]
    refine wpAnyH_take (i := 4) (oi := _) (v := ?v71005) (by simp only [List.getElem?_toArray, List.getElem?_cons_succ, List.getElem?_cons_zero]; rfl) (by kernel_rfl) (by kernel_rfl) (by kernel_rfl) (by exact fun _ _ _ h => h) (Or.inl ⟨by rfl, ?hy71005⟩) (by assumption) ?rest71005
    case hy71005 => (intro w hSw; (try dsimp only at hSw); go_simp; first | with_reducible rfl | (rw [if_neg (by omega)]))
    try simp only [Act.put, List.setIfInBounds_toArray, List.set_cons_zero, List.set_cons_succ]
    refine wpAnyH_take (i := 6) (oi := _) (v := ?v71006) (by simp only [List.getElem?_toArray, List.getElem?_cons_succ, List.getElem?_cons_zero]; rfl) (by kernel_rfl) (by kernel_rfl) (by kernel_rfl) (by exact fun _ _ _ h => h) (Or.inl ⟨by rfl, ?hy71006⟩) (by assumption) ?rest71006
    case hy71006 => (intro w hSw; (try dsimp only at hSw); go_simp; first | with_reducible rfl | (rw [if_neg (by omega)]))
    try simp only [Act.put, List.setIfInBounds_toArray, List.set_cons_zero, List.set_cons_succ]
    refine wpAnyH_take (i := 7) (oi := _) (v := ?v71007) (by simp only [List.getElem?_toArray, List.getElem?_cons_succ, List.getElem?_cons_zero]; rfl) (by kernel_rfl) (by kernel_rfl) (by kernel_rfl) (by exact fun _ _ _ h => h) (Or.inl ⟨by rfl, ?hy71007⟩) (by assumption) ?rest71007
    case hy71007 => (intro w hSw; (try dsimp only at hSw); go_simp; first | with_reducible rfl | (rw [if_neg (by omega)]))
    try simp only [Act.put, List.setIfInBounds_toArray, List.set_cons_zero, List.set_cons_succ]
    refine wpAnyH_ready (rs := [5]) (by kernel_rfl) (by simp) ?_
    refine AllReadyH.cons (o := _) (by simp only [List.getElem?_toArray, List.getElem?_cons_succ, List.getElem?_cons_zero]; rfl) (fun K hK => ?_) AllReadyH.nil
    go_simp
    go_at_call 16
    (with_reducible refine (H1.out _ (Q1.out)).mono ?_)
    rintro e w2 ⟨rfl, hb2⟩
    have Q2 := Lib.hid ((Q1.out).chain hb2)
    clear hb2
    dsimp only
    refine hK.out _ _ (HCB.out _ Q2.out) (fun hHeld => ?_)
    clear hK K
    try simp only [Act.put, List.setIfInBounds_toArray, List.set_cons_zero, List.set_cons_succ]
    refine wpAnyH_take (i := 8) (oi := _) (v := ?v71009) (by simp only [List.getElem?_toArray, List.getElem?_cons_succ, List.getElem?_cons_zero]; rfl) (by kernel_rfl) (by kernel_rfl) (by kernel_rfl) (by exact fun _ _ _ h => h) (Or.inl ⟨by rfl, ?hy71009⟩) (by assumption) ?rest71009
    case hy71009 => (intro w hSw; (try dsimp only at hSw); go_simp; first | with_reducible rfl | (rw [if_neg (by omega)]))
    try simp only [Act.put, List.setIfInBounds_toArray, List.set_cons_zero, List.set_cons_succ]
    refine wpAnyH_take (i := 9) (oi := _) (v := ?v71010) (by simp only [List.getElem?_toArray, List.getElem?_cons_succ, List.getElem?_cons_zero]; rfl) (by kernel_rfl) (by kernel_rfl) (by kernel_rfl) (by exact fun _ _ _ h => h) (Or.inl ⟨by rfl, ?hy71010⟩) (by assumption) ?rest71010
    case hy71010 => (intro w hSw; (try dsimp only at hSw); go_simp; first | with_reducible rfl | (rw [if_neg (by omega)]))
    try simp only [Act.put, List.setIfInBounds_toArray, List.set_cons_zero, List.set_cons_succ]
    refine wpAnyH_take (i := 10) (oi := _) (v := ?v71011) (by simp only [List.getElem?_toArray, List.getElem?_cons_succ, List.getElem?_cons_zero]; rfl) (by kernel_rfl) (by kernel_rfl) (by kernel_rfl) (by exact fun _ _ _ h => h) (Or.inl ⟨by rfl, ?hy71011⟩) (by assumption) ?rest71011
    case hy71011 => (intro w hSw; (try dsimp only at hSw); go_simp; first | with_reducible rfl | (rw [if_neg (by omega)]))
    try simp only [Act.put, List.setIfInBounds_toArray, List.set_cons_zero, List.set_cons_succ]
    refine wpAnyH_take (i := 11) (oi := _) (v := ?v71012) (by simp only [List.getElem?_toArray, List.getElem?_cons_succ, List.getElem?_cons_zero]; rfl) (by kernel_rfl) (by kernel_rfl) (by kernel_rfl) (by exact fun _ _ _ h => h) (Or.inl ⟨by rfl, ?hy71012⟩) (by assumption) ?rest71012
    case hy71012 => (intro w hSw; (try dsimp only at hSw); go_simp; first | with_reducible rfl | (rw [if_neg (by omega)]))
    try simp only [Act.put, List.setIfInBounds_toArray, List.set_cons_zero, List.set_cons_succ]
    refine wpAnyH_take (i := 12) (oi := _) (v := ?v71013) (by simp only [List.getElem?_toArray, List.getElem?_cons_succ, List.getElem?_cons_zero]; rfl) (by kernel_rfl) (by kernel_rfl) (by kernel_rfl) (by exact fun _ _ _ h => h) (Or.inl ⟨by rfl, ?hy71013⟩) (by assumption) ?rest71013
    case hy71013 => (intro w hSw; (try dsimp only at hSw); go_simp; first | with_reducible rfl | (rw [if_neg (by omega)]))
    try simp only [Act.put, List.setIfInBounds_toArray, List.set_cons_zero, List.set_cons_succ]
    refine wpAnyH_take (i := 13) (oi := _) (v := ?v71014) (by simp only [List.getElem?_toArray, List.getElem?_cons_succ, List.getElem?_cons_zero]; rfl) (by kernel_rfl) (by kernel_rfl) (by kernel_rfl) (by exact fun _ _ _ h => h) (Or.inl ⟨by rfl, ?hy71014⟩) (by assumption) ?rest71014
    case hy71014 => (intro w hSw; (try dsimp only at hSw); go_simp; first | with_reducible rfl | (rw [if_neg (by omega)]))
    try simp only [Act.put, List.setIfInBounds_toArray, List.set_cons_zero, List.set_cons_succ]
    refine wpAnyH_take (i := 14) (oi := _) (v := ?v71015) (by simp only [List.getElem?_toArray, List.getElem?_cons_succ, List.getElem?_cons_zero]; rfl) (by kernel_rfl) (by kernel_rfl) (by kernel_rfl) (by exact fun _ _ _ h => h) (Or.inl ⟨by rfl, ?hy71015⟩) (by assumption) ?rest71015
    case hy71015 => (intro w hSw; (try dsimp only at hSw); go_simp; first | with_reducible rfl | (rw [if_neg (by omega)]))
    try simp only [Act.put, List.setIfInBounds_toArray, List.set_cons_zero, List.set_cons_succ]
    refine wpAnyH_take (i := 15) (oi := _) (v := ?v71016) (by simp only [List.getElem?_toArray, List.getElem?_cons_succ, List.getElem?_cons_zero]; rfl) (by kernel_rfl) (by kernel_rfl) (by kernel_rfl) (by exact fun _ _ _ h => h) (Or.inl ⟨by rfl, ?hy71016⟩) (by assumption) ?rest71016
    case hy71016 => (intro w hSw; (try dsimp only at hSw); go_simp; first | with_reducible rfl | (rw [if_neg (by omega)]))
    try simp only [Act.put, List.setIfInBounds_toArray, List.set_cons_zero, List.set_cons_succ]
    refine wpAnyH_ready (rs := [16]) (by kernel_rfl) (by simp) ?_
    refine AllReadyH.cons (o := _) (by simp only [List.getElem?_toArray, List.getElem?_cons_succ, List.getElem?_cons_zero]; rfl) (fun K hK => ?_) AllReadyH.nil
    go_simp
    go_at_call 16
    (with_reducible refine (H2.out _ (Q2.out)).mono ?_)
    rintro e w3 ⟨rfl, hb3⟩
    have Q3 := Lib.hid ((Q2.out).chain hb3)
    clear hb3
    dsimp only
    refine hK.out _ _ (HCB.out _ Q3.out) (fun hHeld => ?_)
    clear hK K
    try simp only [Act.put, List.setIfInBounds_toArray, List.set_cons_zero, List.set_cons_succ]
    refine wpAnyH_take (i := 17) (oi := _) (v := ?v71018) (by simp only [List.getElem?_toArray, List.getElem?_cons_succ, List.getElem?_cons_zero]; rfl) (by kernel_rfl) (by kernel_rfl) (by kernel_rfl) (by exact fun _ _ _ h => h) (Or.inl ⟨by rfl, ?hy71018⟩) (by assumption) ?rest71018
    case hy71018 => (intro w hSw; (try dsimp only at hSw); go_simp; first | with_reducible rfl | (rw [if_neg (by omega)]))
    try simp only [Act.put, List.setIfInBounds_toArray, List.set_cons_zero, List.set_cons_succ]
    refine wpAnyH_take (i := 18) (oi := _) (v := ?v71019) (by simp only [List.getElem?_toArray, List.getElem?_cons_succ, List.getElem?_cons_zero]; rfl) (by kernel_rfl) (by kernel_rfl) (by kernel_rfl) (by exact fun _ _ _ h => h) (Or.inl ⟨by rfl, ?hy71019⟩) (by assumption) ?rest71019
    case hy71019 => (intro w hSw; (try dsimp only at hSw); go_simp; first | with_reducible rfl | (rw [if_neg (by omega)]))
    try simp only [Act.put, List.setIfInBounds_toArray, List.set_cons_zero, List.set_cons_succ]
    refine wpAnyH_take (i := 19) (oi := _) (v := ?v71020) (by simp only [List.getElem?_toArray, List.getElem?_cons_succ, List.getElem?_cons_zero]; rfl) (by kernel_rfl) (by kernel_rfl) (by kernel_rfl) (by exact fun _ _ _ h => h) (Or.inl ⟨by rfl, ?hy71020⟩) (by assumption) ?rest71020
    case hy71020 => (intro w hSw; (try dsimp only at hSw); go_simp; first | with_reducible rfl | (rw [if_neg (by omega)]))
    try simp only [Act.put, List.setIfInBounds_toArray, List.set_cons_zero, List.set_cons_succ]
    refine wpAnyH_take (i := 20) (oi := _) (v := ?v71021) (by simp only [List.getElem?_toArray, List.getElem?_cons_succ, List.getElem?_cons_zero]; rfl) (by kernel_rfl) (by kernel_rfl) (by kernel_rfl) (by exact fun _ _ _ h => h) (Or.inl ⟨by rfl, ?hy71021⟩) (by assumption) ?rest71021
    case hy71021 => (intro w hSw; (try dsimp only at hSw); go_simp; first | with_reducible rfl | (rw [if_neg (by omega)]))
    try simp only [Act.put, List.setIfInBounds_toArray, List.set_cons_zero, List.set_cons_succ]
    refine wpAnyH_take (i := 21) (oi := _) (v := ?v71022) (by simp only [List.getElem?_toArray, List.getElem?_cons_succ, List.getElem?_cons_zero]; rfl) (by kernel_rfl) (by kernel_rfl) (by kernel_rfl) (by exact fun _ _ _ h => h) (Or.inl ⟨by rfl, ?hy71022⟩) (by assumption) ?rest71022
    case hy71022 => (intro w hSw; (try dsimp only at hSw); go_simp; first | with_reducible rfl | (rw [if_neg (by omega)]))
    try simp only [Act.put, List.setIfInBounds_toArray, List.set_cons_zero, List.set_cons_succ]
    refine wpAnyH_take (i := 22) (oi := _) (v := ?v71023) (by simp only [List.getElem?_toArray, List.getElem?_cons_succ, List.getElem?_cons_zero]; rfl) (by kernel_rfl) (by kernel_rfl) (by kernel_rfl) (by exact fun _ _ _ h => h) (Or.inl ⟨by rfl, ?hy71023⟩) (by assumption) ?rest71023
    case hy71023 => (intro w hSw; (try dsimp only at hSw); go_simp; first | with_reducible rfl | (rw [if_neg (by omega)]))
    try simp only [Act.put, List.setIfInBounds_toArray, List.set_cons_zero, List.set_cons_succ]
    refine wpAnyH_take (i := 23) (oi := _) (v := ?v71024) (by simp only [List.getElem?_toArray, List.getElem?_cons_succ, List.getElem?_cons_zero]; rfl) (by kernel_rfl) (by kernel_rfl) (by kernel_rfl) (by exact fun _ _ _ h => h) (Or.inl ⟨by rfl, ?hy71024⟩) (by assumption) ?rest71024
    case hy71024 => (intro w hSw; (try dsimp only at hSw); go_simp; first | with_reducible rfl | (rw [if_neg (by omega)]))
    try simp only [Act.put, List.setIfInBounds_toArray, List.set_cons_zero, List.set_cons_succ]
    refine wpAnyH_ready (rs := [24]) (by kernel_rfl) (by simp) ?_
    refine AllReadyH.cons (o := _) (by simp only [List.getElem?_toArray, List.getElem?_cons_succ, List.getElem?_cons_zero]; rfl) (fun K hK => ?_) AllReadyH.nil
    go_simp
    go_at_call 16
    (with_reducible refine (H3.out _ (Q3.out)).mono ?_)
    rintro e w4 ⟨rfl, hb4⟩
    have Q4 := Lib.hid ((Q3.out).chain hb4)
    clear hb4
    dsimp only
    refine hK.out _ _ (HCB.out _ Q4.out) (fun hHeld => ?_)
    clear hK K
    try simp only [Act.put, List.setIfInBounds_toArray, List.set_cons_zero, List.set_cons_succ]
    refine wpAnyH_take (i := 25) (oi := _) (v := ?v71026) (by simp only [List.getElem?_toArray, List.getElem?_cons_succ, List.getElem?_cons_zero]; rfl) (by kernel_rfl) (by kernel_rfl) (by kernel_rfl) (by exact fun _ _ _ h => h) (Or.inl ⟨by rfl, ?hy71026⟩) (by assumption) ?rest71026
    case hy71026 => (intro w hSw; (try dsimp only at hSw); go_simp; first | with_reducible rfl | (rw [if_neg (by omega)]))
    try simp only [Act.put, List.setIfInBounds_toArray, List.set_cons_zero, List.set_cons_succ]
    refine wpAnyH_take (i := 26) (oi := _) (v := ?v71027) (by simp only [List.getElem?_toArray, List.getElem?_cons_succ, List.getElem?_cons_zero]; rfl) (by kernel_rfl) (by kernel_rfl) (by kernel_rfl) (by exact fun _ _ _ h => h) (Or.inl ⟨by rfl, ?hy71027⟩) (by assumption) ?rest71027
    case hy71027 => (intro w hSw; (try dsimp only at hSw); go_simp; first | with_reducible rfl | (rw [if_neg (by omega)]))
    try simp only [Act.put, List.setIfInBounds_toArray, List.set_cons_zero, List.set_cons_succ]
    refine wpAnyH_take (i := 27) (oi := _) (v := ?v71028) (by simp only [List.getElem?_toArray, List.getElem?_cons_succ, List.getElem?_cons_zero]; rfl) (by kernel_rfl) (by kernel_rfl) (by kernel_rfl) (by exact fun _ _ _ h => h) (Or.inl ⟨by rfl, ?hy71028⟩) (by assumption) ?rest71028
    case hy71028 => (intro w hSw; (try dsimp only at hSw); go_simp; first | with_reducible rfl | (rw [if_neg (by omega)]))
    try simp only [Act.put, List.setIfInBounds_toArray, List.set_cons_zero, List.set_cons_succ]
    refine wpAnyH_take (i := 28) (oi := _) (v := ?v71029) (by simp only [List.getElem?_toArray, List.getElem?_cons_succ, List.getElem?_cons_zero]; rfl) (by kernel_rfl) (by kernel_rfl) (by kernel_rfl) (by exact fun _ _ _ h => h) (Or.inl ⟨by rfl, ?hy71029⟩) (by assumption) ?rest71029
    case hy71029 => (intro w hSw; (try dsimp only at hSw); go_simp; first | with_reducible rfl | (rw [if_neg (by omega)]))
    try simp only [Act.put, List.setIfInBounds_toArray, List.set_cons_zero, List.set_cons_succ]
    refine wpAnyH_take (i := 29) (oi := _) (v := ?v71030) (by simp only [List.getElem?_toArray, List.getElem?_cons_succ, List.getElem?_cons_zero]; rfl) (by kernel_rfl) (by kernel_rfl) (by kernel_rfl) (by exact fun _ _ _ h => h) (Or.inl ⟨by rfl, ?hy71030⟩) (by assumption) ?rest71030
    case hy71030 => (intro w hSw; (try dsimp only at hSw); go_simp; first | with_reducible rfl | (rw [if_neg (by omega)]))
    try simp only [Act.put, List.setIfInBounds_toArray, List.set_cons_zero, List.set_cons_succ]
    refine wpAnyH_take (i := 30) (oi := _) (v := ?v71031) (by simp only [List.getElem?_toArray, List.getElem?_cons_succ, List.getElem?_cons_zero]; rfl) (by kernel_rfl) (by kernel_rfl) (by kernel_rfl) (by exact fun _ _ _ h => h) (Or.inl ⟨by rfl, ?hy71031⟩) (by assumption) ?rest71031
    case hy71031 => (intro w hSw; (try dsimp only at hSw); go_simp; first | with_reducible rfl | (rw [if_neg (by omega)]))
    try simp only [Act.put, List.setIfInBounds_toArray, List.set_cons_zero, List.set_cons_succ]
    refine wpAnyH_take (i := 31) (oi := _) (v := ?v71032) (by simp only [List.getElem?_toArray, List.getElem?_cons_succ, List.getElem?_cons_zero]; rfl) (by kernel_rfl) (by kernel_rfl) (by kernel_rfl) (by exact fun _ _ _ h => h) (Or.inl ⟨by rfl, ?hy71032⟩) (by assumption) ?rest71032
    case hy71032 => (intro w hSw; (try dsimp only at hSw); go_simp; first | with_reducible rfl | (rw [if_neg (by omega)]))
    try simp only [Act.put, List.setIfInBounds_toArray, List.set_cons_zero, List.set_cons_succ]
    refine wpAnyH_ready (rs := [32]) (by kernel_rfl) (by simp) ?_
    refine AllReadyH.cons (o := _) (by simp only [List.getElem?_toArray, List.getElem?_cons_succ, List.getElem?_cons_zero]; rfl) (fun K hK => ?_) AllReadyH.nil
    go_simp
    go_at_call 16
    (with_reducible refine (H4.out _ (Q4.out)).mono ?_)
    rintro e w5 ⟨rfl, hb5⟩
    have Q5 := Lib.hid ((Q4.out).chain hb5)
    clear hb5
    dsimp only
    refine hK.out _ _ (HCB.out _ Q5.out) (fun hHeld => ?_)
    clear hK K
    try simp only [Act.put, List.setIfInBounds_toArray, List.set_cons_zero, List.set_cons_succ]
    refine wpAnyH_take (i := 33) (oi := _) (v := ?v71034) (by simp only [List.getElem?_toArray, List.getElem?_cons_succ, List.getElem?_cons_zero]; rfl) (by kernel_rfl) (by kernel_rfl) (by kernel_rfl) (by exact fun _ _ _ h => h) (Or.inl ⟨by rfl, ?hy71034⟩) (by assumption) ?rest71034
    case hy71034 => (intro w hSw; (try dsimp only at hSw); go_simp; first | with_reducible rfl | (rw [if_neg (by omega)]))
    try simp only [Act.put, List.setIfInBounds_toArray, List.set_cons_zero, List.set_cons_succ]
    refine wpAnyH_take (i := 34) (oi := _) (v := ?v71035) (by simp only [List.getElem?_toArray, List.getElem?_cons_succ, List.getElem?_cons_zero]; rfl) (by kernel_rfl) (by kernel_rfl) (by kernel_rfl) (by exact fun _ _ _ h => h) (Or.inl ⟨by rfl, ?hy71035⟩) (by assumption) ?rest71035
    case hy71035 => (intro w hSw; (try dsimp only at hSw); go_simp; first | with_reducible rfl | (rw [if_neg (by omega)]))
    try simp only [Act.put, List.setIfInBounds_toArray, List.set_cons_zero, List.set_cons_succ]
    refine wpAnyH_take (i := 35) (oi := _) (v := ?v71036) (by simp only [List.getElem?_toArray, List.getElem?_cons_succ, List.getElem?_cons_zero]; rfl) (by kernel_rfl) (by kernel_rfl) (by kernel_rfl) (by exact fun _ _ _ h => h) (Or.inl ⟨by rfl, ?hy71036⟩) (by assumption) ?rest71036
    case hy71036 => (intro w hSw; (try dsimp only at hSw); go_simp; first | with_reducible rfl | (rw [if_neg (by omega)]))
    try simp only [Act.put, List.setIfInBounds_toArray, List.set_cons_zero, List.set_cons_succ]
    refine wpAnyH_done (by kernel_rfl) ?_ _
    go_wp2
    go_ret
    exact ⟨rfl, XW.out.chain Q5.out⟩
  · have hzz : 0 < Z.size := by omega
    have hzb : Z.size ≤ 500 := by omega
    have hib : I.size ≤ 500 := by omega
    have htm := hkm hz0
    have hkle : (k : Int) ≤ Z.size := by omega
    have hk00 : (0 : Int) ≤ k := by omega
    have hnz : ¬ ((Z.size : Int) = 0) := by omega
    clear h1 h2 h3 h4 h2k hcb hcf x1 x2 bX a1 a2 a3 a4 i2 i3 i4 hv hne3 hne4 hk2 hk3 hkm hl hem ANS AUTH K hft hI hZ hIs hZs hi hs h5 hz0
    have HXE := Lib.hid hX
    clear hX
    go_enter Tryd.func6, Tryd.ntmps6
    go_upto_region 7 with fail
    rw [HXE.out]
    refine wp_region_held_drew (S := (fun W =>  W.cell? ⟨w.heap.size + 1, 0, none⟩ = some (.string ⟨#[]⟩) ∧ W.cell? ⟨w.heap.size + 1, 1, none⟩ = some (.string ⟨#[]⟩) ∧ W.cell? ⟨w.heap.size + 1, 2, none⟩ = some (.string ⟨#[]⟩) ∧ W.cell? ⟨w.heap.size + 1, 3, none⟩ = some (.slice (some ⟨w.heap.size, 0, none⟩) 1 1) ∧ W.cell? ⟨w.heap.size + 1, 4, none⟩ = some (.slice none 0 0))) (by kernel_rfl) (HCB.out _ (Below.refl X.heap.size X).drew) (fun hHeld => ?_)
    refine wpAnyH_ready (rs := [0]) (by kernel_rfl) (by simp) ?_
    refine AllReadyH.cons (o := _) (by simp only [List.getElem?_toArray, List.getElem?_cons_succ, List.getElem?_cons_zero]; rfl) (fun K hK => ?_) AllReadyH.nil
    go_simp
    go_at_call 8
    (with_reducible refine (HA.out _ ((Below.refl X.heap.size X).drew)).mono ?_)
    rintro e w1 ⟨rfl, hb1⟩
    have Q1 := Lib.hid (((Below.refl X.heap.size X).drew).chain hb1)
    clear hb1
    dsimp only
    refine hK.out _ _ (HCB.out _ Q1.out) (fun hHeld => ?_)
    clear hK K
    try simp only [Act.put, List.setIfInBounds_toArray, List.set_cons_zero, List.set_cons_succ]
    refine wpAnyH_take (i := 1) (oi := _) (v := ?v71038) (by simp only [List.getElem?_toArray, List.getElem?_cons_succ, List.getElem?_cons_zero]; rfl) (by kernel_rfl) (by kernel_rfl) (by kernel_rfl) (by exact fun _ _ _ h => h) (Or.inl ⟨by rfl, ?hy71038⟩) (by assumption) ?rest71038
    case hy71038 => (intro w hSw; (try dsimp only at hSw); go_simp; first | with_reducible rfl | (rw [if_neg (by omega)]))
    try simp only [Act.put, List.setIfInBounds_toArray, List.set_cons_zero, List.set_cons_succ]
    refine wpAnyH_take (i := 2) (oi := _) (v := ?v71039) (by simp only [List.getElem?_toArray, List.getElem?_cons_succ, List.getElem?_cons_zero]; rfl) (by kernel_rfl) (by kernel_rfl) (by kernel_rfl) (by exact fun _ _ _ h => h) (Or.inl ⟨by rfl, ?hy71039⟩) (by assumption) ?rest71039
    case hy71039 => (intro w hSw; (try dsimp only at hSw); go_simp; first | with_reducible rfl | (rw [if_neg (by omega)]))
    try simp only [Act.put, List.setIfInBounds_toArray, List.set_cons_zero, List.set_cons_succ]
    refine wpAnyH_take (i := 3) (oi := _) (v := ?v71040) (by simp only [List.getElem?_toArray, List.getElem?_cons_succ, List.getElem?_cons_zero]; rfl) (by kernel_rfl) (by kernel_rfl) (by kernel_rfl) (by exact fun _ _ _ h => h) (Or.inl ⟨by rfl, ?hy71040⟩) (by assumption) ?rest71040
    case hy71040 => (intro w hSw; (try dsimp only at hSw); go_simp; first | with_reducible rfl | (rw [if_neg (by omega)]))
    try simp only [Act.put, List.setIfInBounds_toArray, List.set_cons_zero, List.set_cons_succ]
    refine wpAnyH_take (i := 4) (oi := _) (v := ?v71041) (by simp only [List.getElem?_toArray, List.getElem?_cons_succ, List.getElem?_cons_zero]; rfl) (by kernel_rfl) (by kernel_rfl) (by kernel_rfl) (by exact fun _ _ _ h => h) (Or.inl ⟨by rfl, ?hy71041⟩) (by assumption) ?rest71041
    case hy71041 => (intro w hSw; (try dsimp only at hSw); go_simp; first | with_reducible rfl | (rw [if_neg (by omega)]))
    try simp only [Act.put, List.setIfInBounds_toArray, List.set_cons_zero, List.set_cons_succ]
    refine wpAnyH_take (i := 6) (oi := _) (v := ?v71042) (by simp only [List.getElem?_toArray, List.getElem?_cons_succ, List.getElem?_cons_zero]; rfl) (by kernel_rfl) (by kernel_rfl) (by kernel_rfl) (by exact fun _ _ _ h => h) (Or.inl ⟨by rfl, ?hy71042⟩) (by assumption) ?rest71042
    case hy71042 => (intro w hSw; (try dsimp only at hSw); go_simp; first | with_reducible rfl | (rw [if_neg (by omega)]))
    try simp only [Act.put, List.setIfInBounds_toArray, List.set_cons_zero, List.set_cons_succ]
    refine wpAnyH_take (i := 7) (oi := _) (v := ?v71043) (by simp only [List.getElem?_toArray, List.getElem?_cons_succ, List.getElem?_cons_zero]; rfl) (by kernel_rfl) (by kernel_rfl) (by kernel_rfl) (by exact fun _ _ _ h => h) (Or.inl ⟨by rfl, ?hy71043⟩) (by assumption) ?rest71043
    case hy71043 => (intro w hSw; (try dsimp only at hSw); go_simp; first | with_reducible rfl | (rw [if_neg (by omega)]))
    try simp only [Act.put, List.setIfInBounds_toArray, List.set_cons_zero, List.set_cons_succ]
    refine wpAnyH_ready (rs := [5]) (by kernel_rfl) (by simp) ?_
    refine AllReadyH.cons (o := _) (by simp only [List.getElem?_toArray, List.getElem?_cons_succ, List.getElem?_cons_zero]; rfl) (fun K hK => ?_) AllReadyH.nil
    go_simp
    go_at_call 16
    (with_reducible refine (H1.out _ (Q1.out)).mono ?_)
    rintro e w2 ⟨rfl, hb2⟩
    have Q2 := Lib.hid ((Q1.out).chain hb2)
    clear hb2
    dsimp only
    refine hK.out _ _ (HCB.out _ Q2.out) (fun hHeld => ?_)
    clear hK K
    try simp only [Act.put, List.setIfInBounds_toArray, List.set_cons_zero, List.set_cons_succ]
    refine wpAnyH_take (i := 8) (oi := _) (v := ?v71045) (by simp only [List.getElem?_toArray, List.getElem?_cons_succ, List.getElem?_cons_zero]; rfl) (by kernel_rfl) (by kernel_rfl) (by kernel_rfl) (by exact fun _ _ _ h => h) (Or.inl ⟨by rfl, ?hy71045⟩) (by assumption) ?rest71045
    case hy71045 => (intro w hSw; (try dsimp only at hSw); go_simp; first | with_reducible rfl | (rw [if_neg (by omega)]))
    try simp only [Act.put, List.setIfInBounds_toArray, List.set_cons_zero, List.set_cons_succ]
    refine wpAnyH_take (i := 9) (oi := _) (v := ?v71046) (by simp only [List.getElem?_toArray, List.getElem?_cons_succ, List.getElem?_cons_zero]; rfl) (by kernel_rfl) (by kernel_rfl) (by kernel_rfl) (by exact fun _ _ _ h => h) (Or.inl ⟨by rfl, ?hy71046⟩) (by assumption) ?rest71046
    case hy71046 => (intro w hSw; (try dsimp only at hSw); go_simp; first | with_reducible rfl | (rw [if_neg (by omega)]))
    try simp only [Act.put, List.setIfInBounds_toArray, List.set_cons_zero, List.set_cons_succ]
    refine wpAnyH_take (i := 10) (oi := _) (v := ?v71047) (by simp only [List.getElem?_toArray, List.getElem?_cons_succ, List.getElem?_cons_zero]; rfl) (by kernel_rfl) (by kernel_rfl) (by kernel_rfl) (by exact fun _ _ _ h => h) (Or.inl ⟨by rfl, ?hy71047⟩) (by assumption) ?rest71047
    case hy71047 => (intro w hSw; (try dsimp only at hSw); go_simp; first | with_reducible rfl | (rw [if_neg (by omega)]))
    try simp only [Act.put, List.setIfInBounds_toArray, List.set_cons_zero, List.set_cons_succ]
    refine wpAnyH_take (i := 11) (oi := _) (v := ?v71048) (by simp only [List.getElem?_toArray, List.getElem?_cons_succ, List.getElem?_cons_zero]; rfl) (by kernel_rfl) (by kernel_rfl) (by kernel_rfl) (by exact fun _ _ _ h => h) (Or.inl ⟨by rfl, ?hy71048⟩) (by assumption) ?rest71048
    case hy71048 => (intro w hSw; (try dsimp only at hSw); go_simp; first | with_reducible rfl | (rw [if_neg (by omega)]))
    try simp only [Act.put, List.setIfInBounds_toArray, List.set_cons_zero, List.set_cons_succ]
    refine wpAnyH_take (i := 12) (oi := _) (v := ?v71049) (by simp only [List.getElem?_toArray, List.getElem?_cons_succ, List.getElem?_cons_zero]; rfl) (by kernel_rfl) (by kernel_rfl) (by kernel_rfl) (by exact fun _ _ _ h => h) (Or.inl ⟨by rfl, ?hy71049⟩) (by assumption) ?rest71049
    case hy71049 => (intro w hSw; (try dsimp only at hSw); go_simp; first | with_reducible rfl | (rw [if_neg (by omega)]))
    try simp only [Act.put, List.setIfInBounds_toArray, List.set_cons_zero, List.set_cons_succ]
    refine wpAnyH_take (i := 13) (oi := _) (v := ?v71050) (by simp only [List.getElem?_toArray, List.getElem?_cons_succ, List.getElem?_cons_zero]; rfl) (by kernel_rfl) (by kernel_rfl) (by kernel_rfl) (by exact fun _ _ _ h => h) (Or.inl ⟨by rfl, ?hy71050⟩) (by assumption) ?rest71050
    case hy71050 => (intro w hSw; (try dsimp only at hSw); go_simp; first | with_reducible rfl | (rw [if_neg (by omega)]))
    try simp only [Act.put, List.setIfInBounds_toArray, List.set_cons_zero, List.set_cons_succ]
    refine wpAnyH_take (i := 14) (oi := _) (v := ?v71051) (by simp only [List.getElem?_toArray, List.getElem?_cons_succ, List.getElem?_cons_zero]; rfl) (by kernel_rfl) (by kernel_rfl) (by kernel_rfl) (by exact fun _ _ _ h => h) (Or.inl ⟨by rfl, ?hy71051⟩) (by assumption) ?rest71051
    case hy71051 => (intro w hSw; (try dsimp only at hSw); go_simp; first | with_reducible rfl | (rw [if_neg (by omega)]))
    try simp only [Act.put, List.setIfInBounds_toArray, List.set_cons_zero, List.set_cons_succ]
    refine wpAnyH_take (i := 15) (oi := _) (v := ?v71052) (by simp only [List.getElem?_toArray, List.getElem?_cons_succ, List.getElem?_cons_zero]; rfl) (by kernel_rfl) (by kernel_rfl) (by kernel_rfl) (by exact fun _ _ _ h => h) (Or.inl ⟨by rfl, ?hy71052⟩) (by assumption) ?rest71052
    case hy71052 => (intro w hSw; (try dsimp only at hSw); go_simp; first | with_reducible rfl | (rw [if_neg (by omega)]))
    try simp only [Act.put, List.setIfInBounds_toArray, List.set_cons_zero, List.set_cons_succ]
    refine wpAnyH_ready (rs := [16]) (by kernel_rfl) (by simp) ?_
    refine AllReadyH.cons (o := _) (by simp only [List.getElem?_toArray, List.getElem?_cons_succ, List.getElem?_cons_zero]; rfl) (fun K hK => ?_) AllReadyH.nil
    go_simp
    go_at_call 16
    (with_reducible refine (H2.out _ (Q2.out)).mono ?_)
    rintro e w3 ⟨rfl, hb3⟩
    have Q3 := Lib.hid ((Q2.out).chain hb3)
    clear hb3
    dsimp only
    refine hK.out _ _ (HCB.out _ Q3.out) (fun hHeld => ?_)
    clear hK K
    try simp only [Act.put, List.setIfInBounds_toArray, List.set_cons_zero, List.set_cons_succ]
    refine wpAnyH_take (i := 17) (oi := _) (v := ?v71054) (by simp only [List.getElem?_toArray, List.getElem?_cons_succ, List.getElem?_cons_zero]; rfl) (by kernel_rfl) (by kernel_rfl) (by kernel_rfl) (by exact fun _ _ _ h => h) (Or.inl ⟨by rfl, ?hy71054⟩) (by assumption) ?rest71054
    case hy71054 => (intro w hSw; (try dsimp only at hSw); go_simp; first | with_reducible rfl | (rw [if_neg (by omega)]))
    try simp only [Act.put, List.setIfInBounds_toArray, List.set_cons_zero, List.set_cons_succ]
    refine wpAnyH_take (i := 18) (oi := _) (v := ?v71055) (by simp only [List.getElem?_toArray, List.getElem?_cons_succ, List.getElem?_cons_zero]; rfl) (by kernel_rfl) (by kernel_rfl) (by kernel_rfl) (by exact fun _ _ _ h => h) (Or.inl ⟨by rfl, ?hy71055⟩) (by assumption) ?rest71055
    case hy71055 => (intro w hSw; (try dsimp only at hSw); go_simp; first | with_reducible rfl | (rw [if_neg (by omega)]))
    try simp only [Act.put, List.setIfInBounds_toArray, List.set_cons_zero, List.set_cons_succ]
    refine wpAnyH_take (i := 19) (oi := _) (v := ?v71056) (by simp only [List.getElem?_toArray, List.getElem?_cons_succ, List.getElem?_cons_zero]; rfl) (by kernel_rfl) (by kernel_rfl) (by kernel_rfl) (by exact fun _ _ _ h => h) (Or.inl ⟨by rfl, ?hy71056⟩) (by assumption) ?rest71056
    case hy71056 => (intro w hSw; (try dsimp only at hSw); go_simp; first | with_reducible rfl | (rw [if_neg (by omega)]))
    try simp only [Act.put, List.setIfInBounds_toArray, List.set_cons_zero, List.set_cons_succ]
    refine wpAnyH_take (i := 20) (oi := _) (v := ?v71057) (by simp only [List.getElem?_toArray, List.getElem?_cons_succ, List.getElem?_cons_zero]; rfl) (by kernel_rfl) (by kernel_rfl) (by kernel_rfl) (by exact fun _ _ _ h => h) (Or.inl ⟨by rfl, ?hy71057⟩) (by assumption) ?rest71057
    case hy71057 => (intro w hSw; (try dsimp only at hSw); go_simp; first | with_reducible rfl | (rw [if_neg (by omega)]))
    try simp only [Act.put, List.setIfInBounds_toArray, List.set_cons_zero, List.set_cons_succ]
    refine wpAnyH_take (i := 21) (oi := _) (v := ?v71058) (by simp only [List.getElem?_toArray, List.getElem?_cons_succ, List.getElem?_cons_zero]; rfl) (by kernel_rfl) (by kernel_rfl) (by kernel_rfl) (by exact fun _ _ _ h => h) (Or.inl ⟨by rfl, ?hy71058⟩) (by assumption) ?rest71058
    case hy71058 => (intro w hSw; (try dsimp only at hSw); go_simp; first | with_reducible rfl | (rw [if_neg (by omega)]))
    try simp only [Act.put, List.setIfInBounds_toArray, List.set_cons_zero, List.set_cons_succ]
    refine wpAnyH_take (i := 22) (oi := _) (v := ?v71059) (by simp only [List.getElem?_toArray, List.getElem?_cons_succ, List.getElem?_cons_zero]; rfl) (by kernel_rfl) (by kernel_rfl) (by kernel_rfl) (by exact fun _ _ _ h => h) (Or.inl ⟨by rfl, ?hy71059⟩) (by assumption) ?rest71059
    case hy71059 => (intro w hSw; (try dsimp only at hSw); go_simp; first | with_reducible rfl | (rw [if_neg (by omega)]))
    try simp only [Act.put, List.setIfInBounds_toArray, List.set_cons_zero, List.set_cons_succ]
    refine wpAnyH_take (i := 23) (oi := _) (v := ?v71060) (by simp only [List.getElem?_toArray, List.getElem?_cons_succ, List.getElem?_cons_zero]; rfl) (by kernel_rfl) (by kernel_rfl) (by kernel_rfl) (by exact fun _ _ _ h => h) (Or.inl ⟨by rfl, ?hy71060⟩) (by assumption) ?rest71060
    case hy71060 => (intro w hSw; (try dsimp only at hSw); go_simp; first | with_reducible rfl | (rw [if_neg (by omega)]))
    try simp only [Act.put, List.setIfInBounds_toArray, List.set_cons_zero, List.set_cons_succ]
    refine wpAnyH_ready (rs := [24]) (by kernel_rfl) (by simp) ?_
    refine AllReadyH.cons (o := _) (by simp only [List.getElem?_toArray, List.getElem?_cons_succ, List.getElem?_cons_zero]; rfl) (fun K hK => ?_) AllReadyH.nil
    go_simp
    go_at_call 16
    (with_reducible refine (H3.out _ (Q3.out)).mono ?_)
    rintro e w4 ⟨rfl, hb4⟩
    have Q4 := Lib.hid ((Q3.out).chain hb4)
    clear hb4
    dsimp only
    refine hK.out _ _ (HCB.out _ Q4.out) (fun hHeld => ?_)
    clear hK K
    try simp only [Act.put, List.setIfInBounds_toArray, List.set_cons_zero, List.set_cons_succ]
    refine wpAnyH_take (i := 25) (oi := _) (v := ?v71062) (by simp only [List.getElem?_toArray, List.getElem?_cons_succ, List.getElem?_cons_zero]; rfl) (by kernel_rfl) (by kernel_rfl) (by kernel_rfl) (by exact fun _ _ _ h => h) (Or.inl ⟨by rfl, ?hy71062⟩) (by assumption) ?rest71062
    case hy71062 => (intro w hSw; (try dsimp only at hSw); go_simp; first | with_reducible rfl | (rw [if_neg (by omega)]))
    try simp only [Act.put, List.setIfInBounds_toArray, List.set_cons_zero, List.set_cons_succ]
    refine wpAnyH_take (i := 26) (oi := _) (v := ?v71063) (by simp only [List.getElem?_toArray, List.getElem?_cons_succ, List.getElem?_cons_zero]; rfl) (by kernel_rfl) (by kernel_rfl) (by kernel_rfl) (by exact fun _ _ _ h => h) (Or.inl ⟨by rfl, ?hy71063⟩) (by assumption) ?rest71063
    case hy71063 => (intro w hSw; (try dsimp only at hSw); go_simp; first | with_reducible rfl | (rw [if_neg (by omega)]))
    try simp only [Act.put, List.setIfInBounds_toArray, List.set_cons_zero, List.set_cons_succ]
    refine wpAnyH_take (i := 27) (oi := _) (v := ?v71064) (by simp only [List.getElem?_toArray, List.getElem?_cons_succ, List.getElem?_cons_zero]; rfl) (by kernel_rfl) (by kernel_rfl) (by kernel_rfl) (by exact fun _ _ _ h => h) (Or.inl ⟨by rfl, ?hy71064⟩) (by assumption) ?rest71064
    case hy71064 => (intro w hSw; (try dsimp only at hSw); go_simp; first | with_reducible rfl | (rw [if_neg (by omega)]))
    try simp only [Act.put, List.setIfInBounds_toArray, List.set_cons_zero, List.set_cons_succ]
    refine wpAnyH_take (i := 28) (oi := _) (v := ?v71065) (by simp only [List.getElem?_toArray, List.getElem?_cons_succ, List.getElem?_cons_zero]; rfl) (by kernel_rfl) (by kernel_rfl) (by kernel_rfl) (by exact fun _ _ _ h => h) (Or.inl ⟨by rfl, ?hy71065⟩) (by assumption) ?rest71065
    case hy71065 => (intro w hSw; (try dsimp only at hSw); go_simp; first | with_reducible rfl | (rw [if_neg (by omega)]))
    try simp only [Act.put, List.setIfInBounds_toArray, List.set_cons_zero, List.set_cons_succ]
    refine wpAnyH_take (i := 29) (oi := _) (v := ?v71066) (by simp only [List.getElem?_toArray, List.getElem?_cons_succ, List.getElem?_cons_zero]; rfl) (by kernel_rfl) (by kernel_rfl) (by kernel_rfl) (by exact fun _ _ _ h => h) (Or.inl ⟨by rfl, ?hy71066⟩) (by assumption) ?rest71066
    case hy71066 => (intro w hSw; (try dsimp only at hSw); go_simp; first | with_reducible rfl | (rw [if_neg (by omega)]))
    try simp only [Act.put, List.setIfInBounds_toArray, List.set_cons_zero, List.set_cons_succ]
    refine wpAnyH_take (i := 30) (oi := _) (v := ?v71067) (by simp only [List.getElem?_toArray, List.getElem?_cons_succ, List.getElem?_cons_zero]; rfl) (by kernel_rfl) (by kernel_rfl) (by kernel_rfl) (by exact fun _ _ _ h => h) (Or.inl ⟨by rfl, ?hy71067⟩) (by assumption) ?rest71067
    case hy71067 => (intro w hSw; (try dsimp only at hSw); go_simp; first | with_reducible rfl | (rw [if_neg (by omega)]))
    try simp only [Act.put, List.setIfInBounds_toArray, List.set_cons_zero, List.set_cons_succ]
    refine wpAnyH_take (i := 31) (oi := _) (v := ?v71068) (by simp only [List.getElem?_toArray, List.getElem?_cons_succ, List.getElem?_cons_zero]; rfl) (by kernel_rfl) (by kernel_rfl) (by kernel_rfl) (by exact fun _ _ _ h => h) (Or.inl ⟨by rfl, ?hy71068⟩) (by assumption) ?rest71068
    case hy71068 => (intro w hSw; (try dsimp only at hSw); go_simp; first | with_reducible rfl | (rw [if_neg (by omega)]))
    try simp only [Act.put, List.setIfInBounds_toArray, List.set_cons_zero, List.set_cons_succ]
    refine wpAnyH_ready (rs := [32]) (by kernel_rfl) (by simp) ?_
    refine AllReadyH.cons (o := _) (by simp only [List.getElem?_toArray, List.getElem?_cons_succ, List.getElem?_cons_zero]; rfl) (fun K hK => ?_) AllReadyH.nil
    go_simp
    go_at_call 16
    (with_reducible refine (H4.out _ (Q4.out)).mono ?_)
    rintro e w5 ⟨rfl, hb5⟩
    have Q5 := Lib.hid ((Q4.out).chain hb5)
    clear hb5
    dsimp only
    refine hK.out _ _ (HCB.out _ Q5.out) (fun hHeld => ?_)
    clear hK K
    try simp only [Act.put, List.setIfInBounds_toArray, List.set_cons_zero, List.set_cons_succ]
    refine wpAnyH_take (i := 33) (oi := _) (v := ?v71070) (by simp only [List.getElem?_toArray, List.getElem?_cons_succ, List.getElem?_cons_zero]; rfl) (by kernel_rfl) (by kernel_rfl) (by kernel_rfl) (by exact fun _ _ _ h => h) (Or.inl ⟨by rfl, ?hy71070⟩) (by assumption) ?rest71070
    case hy71070 => (intro w hSw; (try dsimp only at hSw); go_simp; first | with_reducible rfl | (rw [if_neg (by omega)]))
    try simp only [Act.put, List.setIfInBounds_toArray, List.set_cons_zero, List.set_cons_succ]
    refine wpAnyH_take (i := 34) (oi := _) (v := ?v71071) (by simp only [List.getElem?_toArray, List.getElem?_cons_succ, List.getElem?_cons_zero]; rfl) (by kernel_rfl) (by kernel_rfl) (by kernel_rfl) (by exact fun _ _ _ h => h) (Or.inl ⟨by rfl, ?hy71071⟩) (by assumption) ?rest71071
    case hy71071 => (intro w hSw; (try dsimp only at hSw); go_simp; first | with_reducible rfl | (rw [if_neg (by omega)]))
    try simp only [Act.put, List.setIfInBounds_toArray, List.set_cons_zero, List.set_cons_succ]
    refine wpAnyH_take (i := 35) (oi := _) (v := ?v71072) (by simp only [List.getElem?_toArray, List.getElem?_cons_succ, List.getElem?_cons_zero]; rfl) (by kernel_rfl) (by kernel_rfl) (by kernel_rfl) (by exact fun _ _ _ h => h) (Or.inl ⟨by rfl, ?hy71072⟩) (by assumption) ?rest71072
    case hy71072 => (intro w hSw; (try dsimp only at hSw); go_simp; first | with_reducible rfl | (rw [if_neg (by omega)]))
    try simp only [Act.put, List.setIfInBounds_toArray, List.set_cons_zero, List.set_cons_succ]
    refine wpAnyH_done (by kernel_rfl) ?_ _
    go_wp2
    go_ret
    exact ⟨rfl, XW.out.chain Q5.out⟩
end Go.Proofs.YtiofgepfcacgjaaDoor
