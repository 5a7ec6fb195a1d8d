/- Texts merged by program, in build order: LawRuleO. -/
import Derived.Test.YtobicmpgfiddhaaDoorG11
import Derived.Test.YtobicmpgfiddhaaDoorG13
import Derived.Test.YtobicmpgfiddhaaDoorG05
import Derived.Deep.RegionLaw
import Derived.Deep.RegionWith
namespace Go.Proofs.YtobicmpgfiddhaaDoor
open Go.RowKit Go.Shelf
set_option linter.unusedVariables false
set_option linter.unusedSimpArgs false

def zb (i : Nat) : UInt8 := UInt8.ofNat (97 + i)
theorem zb_nat {i : Nat} (h : i < 10) : (97 + (i : Int)) = ((zb i).toNat : Int) := by unfold zb; rw [UInt8.toNat_ofNat']; omega
def ordL : Nat → List UInt8
  | 0 => [116, 101, 120, 116, 32, 97, 32, 120, 59, 116, 101, 120, 116, 32, 98, 32, 121]
  | i + 1 => ordL i ++ [59, 116, 101, 120, 116, 32, 97, 32, 122] ++ [zb i]
theorem ordL_len : ∀ i, (ordL i).length = 17 + 10 * i
  | 0 => rfl
  | i + 1 => by
    show (ordL i ++ _ ++ [zb i]).length = _
    simp [ordL_len i]
    omega
theorem ordL_bytes (i : Nat) : (⟨(ordL i).toArray⟩ : ByteArray) ++ ⟨#[59, 116, 101, 120, 116, 32, 97, 32, 122]⟩ ++ ⟨#[zb i]⟩ = ⟨(ordL (i + 1)).toArray⟩ := by
  apply ByteArray.ext
  apply Array.ext'
  show _ = ordL i ++ _ ++ [zb i]
  simp [ByteArray.data_append]
/-- what the rules say -/
theorem ord_all : ∀ k, k < 10 → parseRE (ordL (k + 1)) = 0 ∧ (parseRL (ordL (k + 1))).length = k + 3 ∧ (parseRL (ordL (k + 1))).all RU.good = true ∧ runU (parseRL (ordL (k + 1))) emptyO = some (.mk 6 0 [] [wordV [122, zb k], wordV [121]] [[97], [98]]) := by
  intro k hk
  match k, hk with
  | 0, _ => exact ⟨by decide +kernel, by decide +kernel, by decide +kernel, by rfl⟩
  | 1, _ => exact ⟨by decide +kernel, by decide +kernel, by decide +kernel, by rfl⟩
  | 2, _ => exact ⟨by decide +kernel, by decide +kernel, by decide +kernel, by rfl⟩
  | 3, _ => exact ⟨by decide +kernel, by decide +kernel, by decide +kernel, by rfl⟩
  | 4, _ => exact ⟨by decide +kernel, by decide +kernel, by decide +kernel, by rfl⟩
  | 5, _ => exact ⟨by decide +kernel, by decide +kernel, by decide +kernel, by rfl⟩
  | 6, _ => exact ⟨by decide +kernel, by decide +kernel, by decide +kernel, by rfl⟩
  | 7, _ => exact ⟨by decide +kernel, by decide +kernel, by decide +kernel, by rfl⟩
  | 8, _ => exact ⟨by decide +kernel, by decide +kernel, by decide +kernel, by rfl⟩
  | 9, _ => exact ⟨by decide +kernel, by decide +kernel, by decide +kernel, by rfl⟩
set_option maxRecDepth 100000 in
set_option maxHeartbeats 16000000 in
theorem ruleOrder_at {w : World} (C : CodeRule w) (m : Nat) (hm : m < 256) :
    Calls Tryd.prog 6 #[.int .u8 (m : Int)] w fun e w' => e = .returned (.bool true) ∧ Below w.heap.size w w' := by
  obtain ⟨k, hk, hkm⟩ : ∃ k : Nat, k < 10 ∧ (m : Int) % 10 = (k : Int) := ⟨m % 10, Nat.mod_lt _ (by decide), by omega⟩
  have ht : Int.tmod (m : Int) 10 = (k : Int) := by rw [Int.tmod_eq_emod_of_nonneg (by omega)]; exact hkm
  have ha := fun W (hW : Below w.heap.size w W) => answers14_any C W hW
  obtain ⟨p1, p2, p3, p4⟩ := ord_all k hk
  have hpa := fun W (hW : Below w.heap.size w W) => parse_ok C W hW (ordL (k + 1)) (by rw [ordL_len]; omega) p1 (k + 3) p2
  have hgd : ∀ r ∈ parseRL (ordL (k + 1)), r.good = true := List.all_eq_true.1 p3
  have hrn := fun W (hW : Below w.heap.size w W) A c (h : RdU W (.slice A (k + 3) c) (parseRL (ordL (k + 1)))) => run_ok C W hW _ hgd (by omega) (k + 3) p2 A c emptyO _ (fun x hx => by cases hx) h (emptyO_is W 0 W.heap.size)
  rw [p4] at hrn
  have HA := Lib.hid ha; have HPA := Lib.hid hpa; have HRN := Lib.hid hrn; have HK := Lib.hid hk
  clear ha hpa hrn p1 p2 p3 p4 hgd hkm
  have hw1 : IntKind.i64.wrap ((k : Int) + 1) = (k : Int) + 1 := by rw [IntKind.wrap_i64]; omega
  have hw0 : IntKind.u8.wrap (k : Int) = (k : Int) := by rw [IntKind.wrap_u8]; omega
  have hw2 : IntKind.i64.wrap (k : Int) = (k : Int) := by rw [IntKind.wrap_i64]; omega
  go_enter Tryd.func6, Tryd.ntmps6
  go_wp2_with fail
  go_loopw [4, 5] (fun s i W => ∃ j : Nat, j ≤ k + 1 ∧ i = .int .i64 j ∧ s = .string ⟨(ordL j).toArray⟩ ∧ Hid (Below w.heap.size w W)) (fun _ i _ => k + 1 - (intOf i).toNat)
  case atStart => exact ⟨0, Nat.zero_le _, rfl, rfl, Lib.hid (Below.refl _ _)⟩
  case round =>
    obtain ⟨j, hj, rfl, rfl, hbw⟩ := hrel
    by_cases hlt : j < k + 1
    · have hkr : decide ((j : Int) < (k : Int) + 1) = true := by simp; omega
      have hj10 : j < 10 := by omega
      have hwj : IntKind.u8.wrap (j : Int) = (j : Int) := by rw [IntKind.wrap_u8]; omega
      have hz := zb_nat hj10
      have hwz : IntKind.u8.wrap (97 + (j : Int)) = ((zb j).toNat : Int) := by rw [← hz, IntKind.wrap_u8]; omega
      have hcv := conv_new wr [zb j] #[.int .u8 ((zb j).toNat : Int)] 1 1 rfl rfl
      have hcd := conv_newD wr [zb j] #[.int .u8 ((zb j).toNat : Int)] 1 1 rfl rfl
      have hbn := hbw.out.alloc hbw.out.size (.cells #[.int .u8 ((zb j).toNat : Int)] 5)
      have HBN := Lib.hid hbn
      have hso := ordL_bytes j
      have HSO := Lib.hid hso
      have hsl : (ordL j).length ≤ 200 := by rw [ordL_len]; omega
      generalize zb j = z at *
      generalize ordL j = acc at *
      clear hbn hso hz
      go_wp2
      go_roundw
      case rel => exact ⟨j + 1, by omega, by go_num, by first | exact congrArg Value.string HSO.out | (rw [← HSO.out]), Lib.hid (by first | exact HBN.out | exact HBN.out.drew)⟩
      case measure => simp [intOf]; omega
    · obtain rfl : j = k + 1 := by omega
      have hkr : decide (((k + 1 : Nat) : Int) < (k : Int) + 1) = false := by simp
      have BW := Lib.hid hbw.out
      clear hbw
      go_wp2_with (first
        | (go_at_call 9; (with_reducible refine (HPA.out _ BW.out).mono ?_); rintro e1 w1 ⟨A1, c1, rfl, hrd, hb1⟩; have B1 := Lib.hid (BW.out.chain hb1); have RD := Lib.hid hrd; clear hb1 hrd; dsimp only)
        | (go_at_call 10; (with_reducible refine (HRN.out _ B1.out _ _ RD.out).mono ?_); rintro e2 w2 ⟨⟨vk, vn, vt, VA, va, vb, VA', va', vb', rfl, hv⟩, hb2⟩
           obtain ⟨rfl, rfl, rfl, rfl, rfl, hkk, hll⟩ := obj_out hv
           have B2 := Lib.hid (B1.out.chain hb2); have HKK := Lib.hid hkk; have HLL := Lib.hid hll
           clear hb2 hkk hll hv
           dsimp only))
      rcases HKK.out with h | ⟨kq, kr, rfl, hK⟩
      · cases h
      rcases HLL.out with h | ⟨lq, lr, rfl, hL⟩
      · cases h
      obtain ⟨X, hX⟩ : ∃ X, w2.alloc (.cells #[.int .i64 6, .int .i64 0, .string ⟨#[]⟩, .slice (some ⟨lq, lr, none⟩) 2 vb, .slice (some ⟨kq, kr, none⟩) 2 vb'] 25) = X := ⟨_, rfl⟩
      have bX : Below w2.heap.size w2 X := by rw [← hX]; exact (Below.refl _ _).alloc (Nat.le_refl _) _
      have x1 : X.heap[w2.heap.size]? = some (.cells #[.int .i64 6, .int .i64 0, .string ⟨#[]⟩, .slice (some ⟨lq, lr, none⟩) 2 vb, .slice (some ⟨kq, kr, none⟩) 2 vb'] 25 (0, 0)) := by rw [← hX]; exact heap_alloc_last w2 _
      obtain ⟨-, hk0, hk1⟩ := hK.get 0 (by decide)
      obtain ⟨-, -, hk2⟩ := hK.get 1 (by decide)
      obtain ⟨hl0, hl1⟩ := item_text hL 0 (by simp)
      obtain ⟨-, hl2⟩ := item_text hL 1 (by simp)
      obtain ⟨Z, hZ⟩ : ∃ Z, zb k = Z := ⟨_, rfl⟩
      have hcb : ∀ W, Below X.heap.size X W → ( (W.cell? ⟨w2.heap.size, 3, none⟩ = some (.slice (some ⟨lq, lr, none⟩) 2 vb) ∧ W.cell? ⟨w2.heap.size, 4, none⟩ = some (.slice (some ⟨kq, kr, none⟩) 2 vb') ∧ W.cell? ⟨kq, kr, none⟩ = some (.string ⟨#[97]⟩) ∧ W.cell? ⟨kq, kr + 1, none⟩ = some (.string ⟨#[98]⟩) ∧ W.cell? ⟨lq, lr + 2, none⟩ = some (.string ⟨#[122, Z]⟩) ∧ W.cell? ⟨lq, lr + 5 + 2, none⟩ = some (.string ⟨#[121]⟩))) := fun W hb => by
        have kb := blk_below x1 hb
        have bb := bX.chain hb
        refine ⟨cell_here kb, cell_here kb, (bb.cell (p := ⟨kq, kr, none⟩) hk0).trans hk1, (bb.cell (p := ⟨kq, kr + 1, none⟩) hk0).trans hk2, (bb.cell (p := ⟨lq, lr + 2, none⟩) hl0).trans ?_, (bb.cell (p := ⟨lq, lr + 5 + 2, none⟩) hl0).trans ?_⟩
        · rw [← hZ]; exact hl1
        · exact hl2
      have hz := zb_nat HK.out
      have hwz : IntKind.u8.wrap (97 + (k : Int)) = (Z.toNat : Int) := by rw [← hZ, ← hz, IntKind.wrap_u8]; have := HK.out; omega
      have hws : IntKind.i64.wrap ((k : Int) + 1 - 1) = (k : Int) := by rw [IntKind.wrap_i64]; have := HK.out; omega
      have hsk : (k : Int) + 1 - 1 = (k : Int) := by omega
      have hcat : (⟨#[122]⟩ : ByteArray) ++ ⟨#[Z]⟩ = ⟨#[122, Z]⟩ := by
        apply ByteArray.ext
        simp [ByteArray.data_append]
      have hee : (Z == Z) = true := by simp
      have HCB := Lib.hid hcb
      have XW := Lib.hid (B2.out.chain bX)
      clear bX x1 hk0 hk1 hk2 hl0 hl1 hl2 hcb hz hZ hK hL hkr
      rw [hX]
      clear hX
      go_wp2_with fail
      refine wp_region_held_drew (S := (fun W => (W.cell? ⟨w2.heap.size, 3, none⟩ = some (.slice (some ⟨lq, lr, none⟩) 2 vb) ∧ W.cell? ⟨w2.heap.size, 4, none⟩ = some (.slice (some ⟨kq, kr, none⟩) 2 vb') ∧ W.cell? ⟨kq, kr, none⟩ = some (.string ⟨#[97]⟩) ∧ W.cell? ⟨kq, kr + 1, none⟩ = some (.string ⟨#[98]⟩) ∧ W.cell? ⟨lq, lr + 2, none⟩ = some (.string ⟨#[122, Z]⟩) ∧ W.cell? ⟨lq, lr + 5 + 2, none⟩ = some (.string ⟨#[121]⟩)))) (by kernel_rfl) (HCB.out _ (Below.refl X.heap.size X).drew) (fun hHeld => ?_)
      refine wpAnyH_ready (rs := [0]) (by kernel_rfl) (by simp) ?_
      refine AllReadyH.cons (o := _) (by simp only [List.getElem?_toArray, List.getElem?_cons_succ, List.getElem?_cons_zero]; rfl) (fun K hK => ?_) AllReadyH.nil
      go_simp
      go_at_call 8
      (with_reducible refine (HA.out _ (XW.out.chain (Below.refl X.heap.size X).drew)).mono ?_)
      rintro e wa ⟨rfl, hba⟩
      have QA := Lib.hid ((Below.refl X.heap.size X).drew.chain hba); clear hba
      dsimp only
      refine hK.out _ _ (HCB.out _ QA.out) (fun hHeld => ?_)
      clear hK K
      try simp only [Act.put, List.setIfInBounds_toArray, List.set_cons_zero, List.set_cons_succ]
      refine wpAnyH_take (i := 1) (oi := _) (v := ?v41002) (by simp only [List.getElem?_toArray, List.getElem?_cons_succ, List.getElem?_cons_zero]; rfl) (by kernel_rfl) (by kernel_rfl) (by kernel_rfl) (by exact fun _ _ _ h => h) (Or.inl ⟨by rfl, ?hy41002⟩) (by assumption) ?rest41002
      case hy41002 => (intro w hSw; (try dsimp only at hSw); go_simp; try with_reducible rfl)
      try simp only [Act.put, List.setIfInBounds_toArray, List.set_cons_zero, List.set_cons_succ]
      refine wpAnyH_take (i := 2) (oi := _) (v := ?v41003) (by simp only [List.getElem?_toArray, List.getElem?_cons_succ, List.getElem?_cons_zero]; rfl) (by kernel_rfl) (by kernel_rfl) (by kernel_rfl) (by exact fun _ _ _ h => h) (Or.inl ⟨by rfl, ?hy41003⟩) (by assumption) ?rest41003
      case hy41003 => (intro w hSw; (try dsimp only at hSw); go_simp; try with_reducible rfl)
      try simp only [Act.put, List.setIfInBounds_toArray, List.set_cons_zero, List.set_cons_succ]
      refine wpAnyH_take (i := 3) (oi := _) (v := ?v41004) (by simp only [List.getElem?_toArray, List.getElem?_cons_succ, List.getElem?_cons_zero]; rfl) (by kernel_rfl) (by kernel_rfl) (by kernel_rfl) (by exact fun _ _ _ h => h) (Or.inl ⟨by rfl, ?hy41004⟩) (by assumption) ?rest41004
      case hy41004 => (intro w hSw; (try dsimp only at hSw); go_simp; try with_reducible rfl)
      try simp only [Act.put, List.setIfInBounds_toArray, List.set_cons_zero, List.set_cons_succ]
      refine wpAnyH_take (i := 4) (oi := _) (v := ?v41005) (by simp only [List.getElem?_toArray, List.getElem?_cons_succ, List.getElem?_cons_zero]; rfl) (by kernel_rfl) (by kernel_rfl) (by kernel_rfl) (by exact fun _ _ _ h => h) (Or.inl ⟨by rfl, ?hy41005⟩) (by assumption) ?rest41005
      case hy41005 => (intro w hSw; (try dsimp only at hSw); go_simp; try with_reducible rfl)
      try simp only [Act.put, List.setIfInBounds_toArray, List.set_cons_zero, List.set_cons_succ]
      refine wpAnyH_take (i := 5) (oi := _) (v := ?v41006) (by simp only [List.getElem?_toArray, List.getElem?_cons_succ, List.getElem?_cons_zero]; rfl) (by kernel_rfl) (by kernel_rfl) (by kernel_rfl) (by exact fun _ _ _ h => h) (Or.inl ⟨by rfl, ?hy41006⟩) (by assumption) ?rest41006
      case hy41006 => (intro w hSw; (try dsimp only at hSw); go_simp; try with_reducible rfl)
      try simp only [Act.put, List.setIfInBounds_toArray, List.set_cons_zero, List.set_cons_succ]
      refine wpAnyH_take (i := 6) (oi := _) (v := ?v41007) (by simp only [List.getElem?_toArray, List.getElem?_cons_succ, List.getElem?_cons_zero]; rfl) (by kernel_rfl) (by kernel_rfl) (by kernel_rfl) (by exact fun _ _ _ h => h) (Or.inl ⟨by rfl, ?hy41007⟩) (by assumption) ?rest41007
      case hy41007 => (intro w hSw; (try dsimp only at hSw); go_simp; try with_reducible rfl)
      try simp only [Act.put, List.setIfInBounds_toArray, List.set_cons_zero, List.set_cons_succ]
      refine wpAnyH_take (i := 7) (oi := _) (v := ?v41008) (by simp only [List.getElem?_toArray, List.getElem?_cons_succ, List.getElem?_cons_zero]; rfl) (by kernel_rfl) (by kernel_rfl) (by kernel_rfl) (by exact fun _ _ _ h => h) (Or.inl ⟨by rfl, ?hy41008⟩) (by assumption) ?rest41008
      case hy41008 => (intro w hSw; (try dsimp only at hSw); go_simp; try with_reducible rfl)
      try simp only [Act.put, List.setIfInBounds_toArray, List.set_cons_zero, List.set_cons_succ]
      refine wpAnyH_take (i := 8) (oi := _) (v := ?v41009) (by simp only [List.getElem?_toArray, List.getElem?_cons_succ, List.getElem?_cons_zero]; rfl) (by kernel_rfl) (by kernel_rfl) (by kernel_rfl) (by exact fun _ _ _ h => h) (Or.inl ⟨by rfl, ?hy41009⟩) (by assumption) ?rest41009
      case hy41009 => (intro w hSw; (try dsimp only at hSw); go_simp; try with_reducible rfl)
      try simp only [Act.put, List.setIfInBounds_toArray, List.set_cons_zero, List.set_cons_succ]
      refine wpAnyH_take (i := 9) (oi := _) (v := ?v41010) (by simp only [List.getElem?_toArray, List.getElem?_cons_succ, List.getElem?_cons_zero]; rfl) (by kernel_rfl) (by kernel_rfl) (by kernel_rfl) (by exact fun _ _ _ h => h) (Or.inl ⟨by rfl, ?hy41010⟩) (by assumption) ?rest41010
      case hy41010 => (intro w hSw; (try dsimp only at hSw); go_simp; try with_reducible rfl)
      try simp only [Act.put, List.setIfInBounds_toArray, List.set_cons_zero, List.set_cons_succ]
      refine wpAnyH_take (i := 10) (oi := _) (v := ?v41011) (by simp only [List.getElem?_toArray, List.getElem?_cons_succ, List.getElem?_cons_zero]; rfl) (by kernel_rfl) (by kernel_rfl) (by kernel_rfl) (by exact fun _ _ _ h => h) (Or.inl ⟨by rfl, ?hy41011⟩) (by assumption) ?rest41011
      case hy41011 => (intro w hSw; (try dsimp only at hSw); go_simp; try with_reducible rfl)
      try simp only [Act.put, List.setIfInBounds_toArray, List.set_cons_zero, List.set_cons_succ]
      refine wpAnyH_take (i := 11) (oi := _) (v := ?v41012) (by simp only [List.getElem?_toArray, List.getElem?_cons_succ, List.getElem?_cons_zero]; rfl) (by kernel_rfl) (by kernel_rfl) (by kernel_rfl) (by exact fun _ _ _ h => h) (Or.inl ⟨by rfl, ?hy41012⟩) (by assumption) ?rest41012
      case hy41012 => (intro w hSw; (try dsimp only at hSw); go_simp; try with_reducible rfl)
      try simp only [Act.put, List.setIfInBounds_toArray, List.set_cons_zero, List.set_cons_succ]
      refine wpAnyH_take (i := 12) (oi := _) (v := ?v41013) (by simp only [List.getElem?_toArray, List.getElem?_cons_succ, List.getElem?_cons_zero]; rfl) (by kernel_rfl) (by kernel_rfl) (by kernel_rfl) (by exact fun _ _ _ h => h) (Or.inl ⟨by rfl, ?hy41013⟩) (by assumption) ?rest41013
      case hy41013 => (intro w hSw; (try dsimp only at hSw); go_simp; try with_reducible rfl)
      try simp only [Act.put, List.setIfInBounds_toArray, List.set_cons_zero, List.set_cons_succ]
      refine wpAnyH_take (i := 13) (oi := _) (v := ?v41014) (by simp only [List.getElem?_toArray, List.getElem?_cons_succ, List.getElem?_cons_zero]; rfl) (by kernel_rfl) (by kernel_rfl) (by kernel_rfl) (by exact fun _ _ _ h => h) (Or.inl ⟨by rfl, ?hy41014⟩) (by assumption) ?rest41014
      case hy41014 => (intro w hSw; (try dsimp only at hSw); go_simp; try with_reducible rfl)
      try simp only [Act.put, List.setIfInBounds_toArray, List.set_cons_zero, List.set_cons_succ]
      refine wpAnyH_take (i := 14) (oi := _) (v := ?v41015) (by simp only [List.getElem?_toArray, List.getElem?_cons_succ, List.getElem?_cons_zero]; rfl) (by kernel_rfl) (by kernel_rfl) (by kernel_rfl) (by exact fun _ _ _ h => h) (Or.inl ⟨by rfl, ?hy41015⟩) (by assumption) ?rest41015
      case hy41015 => (intro w hSw; (try dsimp only at hSw); go_simp; try with_reducible rfl)
      try simp only [Act.put, List.setIfInBounds_toArray, List.set_cons_zero, List.set_cons_succ]
      refine wpAnyH_take (i := 15) (oi := _) (v := ?v41016) (by simp only [List.getElem?_toArray, List.getElem?_cons_succ, List.getElem?_cons_zero]; rfl) (by kernel_rfl) (by kernel_rfl) (by kernel_rfl) (by exact fun _ _ _ h => h) (Or.inl ⟨by rfl, ?hy41016⟩) (by assumption) ?rest41016
      case hy41016 => (intro w hSw; (try dsimp only at hSw); go_simp; try with_reducible rfl)
      try simp only [Act.put, List.setIfInBounds_toArray, List.set_cons_zero, List.set_cons_succ]
      refine wpAnyH_take (i := 16) (oi := _) (v := ?v41017) (by simp only [List.getElem?_toArray, List.getElem?_cons_succ, List.getElem?_cons_zero]; rfl) (by kernel_rfl) (by kernel_rfl) (by kernel_rfl) (by exact fun _ _ _ h => h) (Or.inl ⟨by rfl, ?hy41017⟩) (by assumption) ?rest41017
      case hy41017 => (intro w hSw; (try dsimp only at hSw); go_simp; try with_reducible rfl)
      try simp only [Act.put, List.setIfInBounds_toArray, List.set_cons_zero, List.set_cons_succ]
      refine wpAnyH_take (i := 17) (oi := _) (v := ?v41018) (by simp only [List.getElem?_toArray, List.getElem?_cons_succ, List.getElem?_cons_zero]; rfl) (by kernel_rfl) (by kernel_rfl) (by kernel_rfl) (by exact fun _ _ _ h => h) (Or.inl ⟨by rfl, ?hy41018⟩) (by assumption) ?rest41018
      case hy41018 => (intro w hSw; (try dsimp only at hSw); go_simp; try with_reducible rfl)
      try simp only [Act.put, List.setIfInBounds_toArray, List.set_cons_zero, List.set_cons_succ]
      refine wpAnyH_take (i := 18) (oi := _) (v := ?v41019) (by simp only [List.getElem?_toArray, List.getElem?_cons_succ, List.getElem?_cons_zero]; rfl) (by kernel_rfl) (by kernel_rfl) (by kernel_rfl) (by exact fun _ _ _ h => h) (Or.inl ⟨by rfl, ?hy41019⟩) (by assumption) ?rest41019
      case hy41019 => (intro w hSw; (try dsimp only at hSw); go_simp; try with_reducible rfl)
      try simp only [Act.put, List.setIfInBounds_toArray, List.set_cons_zero, List.set_cons_succ]
      refine wpAnyH_take (i := 19) (oi := _) (v := ?v41020) (by simp only [List.getElem?_toArray, List.getElem?_cons_succ, List.getElem?_cons_zero]; rfl) (by kernel_rfl) (by kernel_rfl) (by kernel_rfl) (by exact fun _ _ _ h => h) (Or.inl ⟨by rfl, ?hy41020⟩) (by assumption) ?rest41020
      case hy41020 => (intro w hSw; (try dsimp only at hSw); go_simp; try with_reducible rfl)
      try simp only [Act.put, List.setIfInBounds_toArray, List.set_cons_zero, List.set_cons_succ]
      refine wpAnyH_take (i := 20) (oi := _) (v := ?v41021) (by simp only [List.getElem?_toArray, List.getElem?_cons_succ, List.getElem?_cons_zero]; rfl) (by kernel_rfl) (by kernel_rfl) (by kernel_rfl) (by exact fun _ _ _ h => h) (Or.inl ⟨by rfl, ?hy41021⟩) (by assumption) ?rest41021
      case hy41021 => (intro w hSw; (try dsimp only at hSw); go_simp; try with_reducible rfl)
      try simp only [Act.put, List.setIfInBounds_toArray, List.set_cons_zero, List.set_cons_succ]
      refine wpAnyH_take (i := 21) (oi := _) (v := ?v41022) (by simp only [List.getElem?_toArray, List.getElem?_cons_succ, List.getElem?_cons_zero]; rfl) (by kernel_rfl) (by kernel_rfl) (by kernel_rfl) (by exact fun _ _ _ h => h) (Or.inl ⟨by rfl, ?hy41022⟩) (by assumption) ?rest41022
      case hy41022 => (intro w hSw; (try dsimp only at hSw); go_simp; try with_reducible rfl)
      try simp only [Act.put, List.setIfInBounds_toArray, List.set_cons_zero, List.set_cons_succ]
      refine wpAnyH_take (i := 22) (oi := _) (v := ?v41023) (by simp only [List.getElem?_toArray, List.getElem?_cons_succ, List.getElem?_cons_zero]; rfl) (by kernel_rfl) (by kernel_rfl) (by kernel_rfl) (by exact fun _ _ _ h => h) (Or.inl ⟨by rfl, ?hy41023⟩) (by assumption) ?rest41023
      case hy41023 => (intro w hSw; (try dsimp only at hSw); go_simp; try with_reducible rfl)
      try simp only [Act.put, List.setIfInBounds_toArray, List.set_cons_zero, List.set_cons_succ]
      refine wpAnyH_take (i := 23) (oi := _) (v := ?v41024) (by simp only [List.getElem?_toArray, List.getElem?_cons_succ, List.getElem?_cons_zero]; rfl) (by kernel_rfl) (by kernel_rfl) (by kernel_rfl) (by exact fun _ _ _ h => h) (Or.inl ⟨by rfl, ?hy41024⟩) (by assumption) ?rest41024
      case hy41024 => (intro w hSw; (try dsimp only at hSw); go_simp; try with_reducible rfl)
      try simp only [Act.put, List.setIfInBounds_toArray, List.set_cons_zero, List.set_cons_succ]
      refine wpAnyH_take (i := 24) (oi := _) (v := ?v41025) (by simp only [List.getElem?_toArray, List.getElem?_cons_succ, List.getElem?_cons_zero]; rfl) (by kernel_rfl) (by kernel_rfl) (by kernel_rfl) (by exact fun _ _ _ h => h) (Or.inl ⟨by rfl, ?hy41025⟩) (by assumption) ?rest41025
      case hy41025 => (intro w hSw; (try dsimp only at hSw); go_simp; try with_reducible rfl)
      try simp only [Act.put, List.setIfInBounds_toArray, List.set_cons_zero, List.set_cons_succ]
      refine wpAnyH_take (i := 25) (oi := _) (v := ?v41026) (by simp only [List.getElem?_toArray, List.getElem?_cons_succ, List.getElem?_cons_zero]; rfl) (by kernel_rfl) (by kernel_rfl) (by kernel_rfl) (by exact fun _ _ _ h => h) (Or.inl ⟨by rfl, ?hy41026⟩) (by assumption) ?rest41026
      case hy41026 => (intro w hSw; (try dsimp only at hSw); go_simp; try with_reducible rfl)
      try simp only [Act.put, List.setIfInBounds_toArray, List.set_cons_zero, List.set_cons_succ]
      refine wpAnyH_take (i := 26) (oi := _) (v := ?v41027) (by simp only [List.getElem?_toArray, List.getElem?_cons_succ, List.getElem?_cons_zero]; rfl) (by kernel_rfl) (by kernel_rfl) (by kernel_rfl) (by exact fun _ _ _ h => h) (Or.inl ⟨by rfl, ?hy41027⟩) (by assumption) ?rest41027
      case hy41027 => (intro w hSw; (try dsimp only at hSw); go_simp; try with_reducible rfl)
      try simp only [Act.put, List.setIfInBounds_toArray, List.set_cons_zero, List.set_cons_succ]
      refine wpAnyH_take (i := 27) (oi := _) (v := ?v41028) (by simp only [List.getElem?_toArray, List.getElem?_cons_succ, List.getElem?_cons_zero]; rfl) (by kernel_rfl) (by kernel_rfl) (by kernel_rfl) (by exact fun _ _ _ h => h) (Or.inl ⟨by rfl, ?hy41028⟩) (by assumption) ?rest41028
      case hy41028 => (intro w hSw; (try dsimp only at hSw); go_simp; try with_reducible rfl)
      try simp only [Act.put, List.setIfInBounds_toArray, List.set_cons_zero, List.set_cons_succ]
      refine wpAnyH_take (i := 28) (oi := _) (v := ?v41029) (by simp only [List.getElem?_toArray, List.getElem?_cons_succ, List.getElem?_cons_zero]; rfl) (by kernel_rfl) (by kernel_rfl) (by kernel_rfl) (by exact fun _ _ _ h => h) (Or.inl ⟨by rfl, ?hy41029⟩) (by assumption) ?rest41029
      case hy41029 => (intro w hSw; (try dsimp only at hSw); go_simp; try with_reducible rfl)
      try simp only [Act.put, List.setIfInBounds_toArray, List.set_cons_zero, List.set_cons_succ]
      refine wpAnyH_take (i := 29) (oi := _) (v := ?v41030) (by simp only [List.getElem?_toArray, List.getElem?_cons_succ, List.getElem?_cons_zero]; rfl) (by kernel_rfl) (by kernel_rfl) (by kernel_rfl) (by exact fun _ _ _ h => h) (Or.inl ⟨by rfl, ?hy41030⟩) (by assumption) ?rest41030
      case hy41030 => (intro w hSw; (try dsimp only at hSw); go_simp; try with_reducible rfl)
      try simp only [Act.put, List.setIfInBounds_toArray, List.set_cons_zero, List.set_cons_succ]
      refine wpAnyH_take (i := 30) (oi := _) (v := ?v41031) (by simp only [List.getElem?_toArray, List.getElem?_cons_succ, List.getElem?_cons_zero]; rfl) (by kernel_rfl) (by kernel_rfl) (by kernel_rfl) (by exact fun _ _ _ h => h) (Or.inl ⟨by rfl, ?hy41031⟩) (by assumption) ?rest41031
      case hy41031 => (intro w hSw; (try dsimp only at hSw); go_simp; try with_reducible rfl)
      try simp only [Act.put, List.setIfInBounds_toArray, List.set_cons_zero, List.set_cons_succ]
      refine wpAnyH_take (i := 31) (oi := _) (v := ?v41032) (by simp only [List.getElem?_toArray, List.getElem?_cons_succ, List.getElem?_cons_zero]; rfl) (by kernel_rfl) (by kernel_rfl) (by kernel_rfl) (by exact fun _ _ _ h => h) (Or.inl ⟨by rfl, ?hy41032⟩) (by assumption) ?rest41032
      case hy41032 => (intro w hSw; (try dsimp only at hSw); go_simp; try with_reducible rfl)
      try simp only [Act.put, List.setIfInBounds_toArray, List.set_cons_zero, List.set_cons_succ]
      refine wpAnyH_take (i := 32) (oi := _) (v := ?v41033) (by simp only [List.getElem?_toArray, List.getElem?_cons_succ, List.getElem?_cons_zero]; rfl) (by kernel_rfl) (by kernel_rfl) (by kernel_rfl) (by exact fun _ _ _ h => h) (Or.inl ⟨by rfl, ?hy41033⟩) (by assumption) ?rest41033
      case hy41033 => (intro w hSw; (try dsimp only at hSw); go_simp; try with_reducible rfl)
      try simp only [Act.put, List.setIfInBounds_toArray, List.set_cons_zero, List.set_cons_succ]
      refine wpAnyH_take (i := 33) (oi := _) (v := ?v41034) (by simp only [List.getElem?_toArray, List.getElem?_cons_succ, List.getElem?_cons_zero]; rfl) (by kernel_rfl) (by kernel_rfl) (by kernel_rfl) (by exact fun _ _ _ h => h) (Or.inl ⟨by rfl, ?hy41034⟩) (by assumption) ?rest41034
      case hy41034 => (intro w hSw; (try dsimp only at hSw); go_simp; try with_reducible rfl)
      try simp only [Act.put, List.setIfInBounds_toArray, List.set_cons_zero, List.set_cons_succ]
      refine wpAnyH_take (i := 34) (oi := _) (v := ?v41035) (by simp only [List.getElem?_toArray, List.getElem?_cons_succ, List.getElem?_cons_zero]; rfl) (by kernel_rfl) (by kernel_rfl) (by kernel_rfl) (by exact fun _ _ _ h => h) (Or.inl ⟨by rfl, ?hy41035⟩) (by assumption) ?rest41035
      case hy41035 => (intro w hSw; (try dsimp only at hSw); go_simp; try with_reducible rfl)
      try simp only [Act.put, List.setIfInBounds_toArray, List.set_cons_zero, List.set_cons_succ]
      refine wpAnyH_take (i := 35) (oi := _) (v := ?v41036) (by simp only [List.getElem?_toArray, List.getElem?_cons_succ, List.getElem?_cons_zero]; rfl) (by kernel_rfl) (by kernel_rfl) (by kernel_rfl) (by exact fun _ _ _ h => h) (Or.inl ⟨by rfl, ?hy41036⟩) (by assumption) ?rest41036
      case hy41036 => (intro w hSw; (try dsimp only at hSw); go_simp; try with_reducible rfl)
      try simp only [Act.put, List.setIfInBounds_toArray, List.set_cons_zero, List.set_cons_succ]
      refine wpAnyH_take (i := 36) (oi := _) (v := ?v41037) (by simp only [List.getElem?_toArray, List.getElem?_cons_succ, List.getElem?_cons_zero]; rfl) (by kernel_rfl) (by kernel_rfl) (by kernel_rfl) (by exact fun _ _ _ h => h) (Or.inl ⟨by rfl, ?hy41037⟩) (by assumption) ?rest41037
      case hy41037 => (intro w hSw; (try dsimp only at hSw); go_simp; try with_reducible rfl)
      try simp only [Act.put, List.setIfInBounds_toArray, List.set_cons_zero, List.set_cons_succ]
      refine wpAnyH_take (i := 37) (oi := _) (v := ?v41038) (by simp only [List.getElem?_toArray, List.getElem?_cons_succ, List.getElem?_cons_zero]; rfl) (by kernel_rfl) (by kernel_rfl) (by kernel_rfl) (by exact fun _ _ _ h => h) (Or.inl ⟨by rfl, ?hy41038⟩) (by assumption) ?rest41038
      case hy41038 => (intro w hSw; (try dsimp only at hSw); go_simp; try with_reducible rfl)
      try simp only [Act.put, List.setIfInBounds_toArray, List.set_cons_zero, List.set_cons_succ]
      refine wpAnyH_ready (rs := [38]) (by kernel_rfl) (by simp) ?_
      refine AllReadyH.cons (o := _) (by simp only [List.getElem?_toArray, List.getElem?_cons_succ, List.getElem?_cons_zero]; rfl) (fun K hK => ?_) AllReadyH.nil
      go_simp
      have hcv := conv_new wa [Z] #[.int .u8 (Z.toNat : Int)] 1 1 rfl rfl
      refine hK.out _ _ (HCB.out _ (QA.out.alloc (QA.out.size) _)) (fun hHeld => ?_)
      clear hK K
      try simp only [Act.put, List.setIfInBounds_toArray, List.set_cons_zero, List.set_cons_succ]
      refine wpAnyH_ready (rs := [39]) (by kernel_rfl) (by simp) ?_
      refine AllReadyH.cons (o := _) (by simp only [List.getElem?_toArray, List.getElem?_cons_succ, List.getElem?_cons_zero]; rfl) (fun K hK => ?_) AllReadyH.nil
      go_simp
      refine hK.out _ _ (HCB.out _ (QA.out.alloc (QA.out.size) _)) (fun hHeld => ?_)
      clear hK K
      try simp only [Act.put, List.setIfInBounds_toArray, List.set_cons_zero, List.set_cons_succ]
      refine wpAnyH_take (i := 40) (oi := _) (v := .string ⟨#[122, Z]⟩) (by simp only [List.getElem?_toArray, List.getElem?_cons_succ, List.getElem?_cons_zero]; rfl) (by kernel_rfl) (by kernel_rfl) (by kernel_rfl) (by exact fun _ _ _ h => h) (Or.inl ⟨by rfl, ?hy41041⟩) (by assumption) ?rest41041
      case hy41041 => (intro w hSw; (try dsimp only at hSw); go_simp)
      try simp only [Act.put, List.setIfInBounds_toArray, List.set_cons_zero, List.set_cons_succ]
      refine wpAnyH_take (i := 41) (oi := _) (v := .bool true) (by simp only [List.getElem?_toArray, List.getElem?_cons_succ, List.getElem?_cons_zero]; rfl) (by kernel_rfl) (by kernel_rfl) (by kernel_rfl) (by exact fun _ _ _ h => h) (Or.inl ⟨by rfl, ?hy41042⟩) (by assumption) ?rest41042
      case hy41042 => (intro w hSw; (try dsimp only at hSw); go_simp)
      try simp only [Act.put, List.setIfInBounds_toArray, List.set_cons_zero, List.set_cons_succ]
      refine wpAnyH_take (i := 42) (oi := _) (v := ?v41043) (by simp only [List.getElem?_toArray, List.getElem?_cons_succ, List.getElem?_cons_zero]; rfl) (by kernel_rfl) (by kernel_rfl) (by kernel_rfl) (by exact fun _ _ _ h => h) (Or.inl ⟨by rfl, ?hy41043⟩) (by assumption) ?rest41043
      case hy41043 => (intro w hSw; (try dsimp only at hSw); go_simp; try with_reducible rfl)
      try simp only [Act.put, List.setIfInBounds_toArray, List.set_cons_zero, List.set_cons_succ]
      refine wpAnyH_take (i := 43) (oi := _) (v := ?v41044) (by simp only [List.getElem?_toArray, List.getElem?_cons_succ, List.getElem?_cons_zero]; rfl) (by kernel_rfl) (by kernel_rfl) (by kernel_rfl) (by exact fun _ _ _ h => h) (Or.inl ⟨by rfl, ?hy41044⟩) (by assumption) ?rest41044
      case hy41044 => (intro w hSw; (try dsimp only at hSw); go_simp; try with_reducible rfl)
      try simp only [Act.put, List.setIfInBounds_toArray, List.set_cons_zero, List.set_cons_succ]
      refine wpAnyH_take (i := 44) (oi := _) (v := ?v41045) (by simp only [List.getElem?_toArray, List.getElem?_cons_succ, List.getElem?_cons_zero]; rfl) (by kernel_rfl) (by kernel_rfl) (by kernel_rfl) (by exact fun _ _ _ h => h) (Or.inl ⟨by rfl, ?hy41045⟩) (by assumption) ?rest41045
      case hy41045 => (intro w hSw; (try dsimp only at hSw); go_simp; try with_reducible rfl)
      try simp only [Act.put, List.setIfInBounds_toArray, List.set_cons_zero, List.set_cons_succ]
      refine wpAnyH_take (i := 45) (oi := _) (v := ?v41046) (by simp only [List.getElem?_toArray, List.getElem?_cons_succ, List.getElem?_cons_zero]; rfl) (by kernel_rfl) (by kernel_rfl) (by kernel_rfl) (by exact fun _ _ _ h => h) (Or.inl ⟨by rfl, ?hy41046⟩) (by assumption) ?rest41046
      case hy41046 => (intro w hSw; (try dsimp only at hSw); go_simp; try with_reducible rfl)
      try simp only [Act.put, List.setIfInBounds_toArray, List.set_cons_zero, List.set_cons_succ]
      refine wpAnyH_take (i := 46) (oi := _) (v := ?v41047) (by simp only [List.getElem?_toArray, List.getElem?_cons_succ, List.getElem?_cons_zero]; rfl) (by kernel_rfl) (by kernel_rfl) (by kernel_rfl) (by exact fun _ _ _ h => h) (Or.inl ⟨by rfl, ?hy41047⟩) (by assumption) ?rest41047
      case hy41047 => (intro w hSw; (try dsimp only at hSw); go_simp; try with_reducible rfl)
      try simp only [Act.put, List.setIfInBounds_toArray, List.set_cons_zero, List.set_cons_succ]
      refine wpAnyH_take (i := 47) (oi := _) (v := ?v41048) (by simp only [List.getElem?_toArray, List.getElem?_cons_succ, List.getElem?_cons_zero]; rfl) (by kernel_rfl) (by kernel_rfl) (by kernel_rfl) (by exact fun _ _ _ h => h) (Or.inl ⟨by rfl, ?hy41048⟩) (by assumption) ?rest41048
      case hy41048 => (intro w hSw; (try dsimp only at hSw); go_simp; try with_reducible rfl)
      try simp only [Act.put, List.setIfInBounds_toArray, List.set_cons_zero, List.set_cons_succ]
      refine wpAnyH_take (i := 48) (oi := _) (v := ?v41049) (by simp only [List.getElem?_toArray, List.getElem?_cons_succ, List.getElem?_cons_zero]; rfl) (by kernel_rfl) (by kernel_rfl) (by kernel_rfl) (by exact fun _ _ _ h => h) (Or.inl ⟨by rfl, ?hy41049⟩) (by assumption) ?rest41049
      case hy41049 => (intro w hSw; (try dsimp only at hSw); go_simp; try with_reducible rfl)
      try simp only [Act.put, List.setIfInBounds_toArray, List.set_cons_zero, List.set_cons_succ]
      refine wpAnyH_take (i := 49) (oi := _) (v := ?v41050) (by simp only [List.getElem?_toArray, List.getElem?_cons_succ, List.getElem?_cons_zero]; rfl) (by kernel_rfl) (by kernel_rfl) (by kernel_rfl) (by exact fun _ _ _ h => h) (Or.inl ⟨by rfl, ?hy41050⟩) (by assumption) ?rest41050
      case hy41050 => (intro w hSw; (try dsimp only at hSw); go_simp; try with_reducible rfl)
      try simp only [Act.put, List.setIfInBounds_toArray, List.set_cons_zero, List.set_cons_succ]
      refine wpAnyH_take (i := 50) (oi := _) (v := ?v41051) (by simp only [List.getElem?_toArray, List.getElem?_cons_succ, List.getElem?_cons_zero]; rfl) (by kernel_rfl) (by kernel_rfl) (by kernel_rfl) (by exact fun _ _ _ h => h) (Or.inl ⟨by rfl, ?hy41051⟩) (by assumption) ?rest41051
      case hy41051 => (intro w hSw; (try dsimp only at hSw); go_simp; try with_reducible rfl)
      try simp only [Act.put, List.setIfInBounds_toArray, List.set_cons_zero, List.set_cons_succ]
      refine wpAnyH_take (i := 51) (oi := _) (v := ?v41052) (by simp only [List.getElem?_toArray, List.getElem?_cons_succ, List.getElem?_cons_zero]; rfl) (by kernel_rfl) (by kernel_rfl) (by kernel_rfl) (by exact fun _ _ _ h => h) (Or.inl ⟨by rfl, ?hy41052⟩) (by assumption) ?rest41052
      case hy41052 => (intro w hSw; (try dsimp only at hSw); go_simp; try with_reducible rfl)
      try simp only [Act.put, List.setIfInBounds_toArray, List.set_cons_zero, List.set_cons_succ]
      refine wpAnyH_done (by kernel_rfl) ?_ _
      go_wp2
      go_ret
      exact ⟨rfl, XW.out.chain (QA.out.alloc QA.out.size _)⟩
theorem ruleOrder_row (x : Int) (hx : (Lit.int .u8 x).wf = true) (w : World) (C : CodeRule w) :
    Calls Tryd.prog 6 #[.int .u8 x] w fun e w' => e = .returned (.bool true) ∧ Below w.heap.size w w' := by
  obtain ⟨c, rfl⟩ := byte_ex hx
  exact ruleOrder_at C c.toNat (UInt8.toNat_lt c)
end Go.Proofs.YtobicmpgfiddhaaDoor
