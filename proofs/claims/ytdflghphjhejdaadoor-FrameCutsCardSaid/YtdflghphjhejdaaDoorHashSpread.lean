/- hash.spread: a block's schedule. -/
import Derived.Test.YtdflghphjhejdaaDoorHashTurn
import Derived.Test.YtdflghphjhejdaaDoorSumEight
namespace Go.Proofs.YtdflghphjhejdaaDoor
open Go.RowKit

theorem sub_at (s : ByteArray) (a b i : Nat) (h : i < (s.extract a b).size) (h' : a + i < s.size) : (s.extract a b)[i] = s[a + i] := by simp [ByteArray.getElem_extract]
theorem below_setCells {B : Nat} {w w' : World} (h : Below B w w') {g : Nat} (hg : B ≤ g) : ∀ (vs : List Value) (o : Nat), Below B w (w'.setCells g o vs) := by
  intro vs
  induction vs generalizing w' with
  | nil => exact fun _ => h
  | cons v vs ih => intro o; exact ih (h.setCell (p := ⟨g, o, none⟩) hg v) (o + 1)
theorem or_add (k x y : Nat) (hy : y < 2 ^ k) : 2 ^ k * x ||| y = 2 ^ k * x + y := (Nat.two_pow_add_eq_or_of_lt hy x).symm
theorem or_word (a b c d : UInt8) : bits .or .u32 (bits .or .u32 (bits .or .u32 ((a.toNat : Int) * 16777216) ((b.toNat : Int) * 65536)) ((c.toNat : Int) * 256)) (d.toNat : Int) = (a.toNat : Int) * 16777216 + (b.toNat : Int) * 65536 + (c.toNat : Int) * 256 + (d.toNat : Int) := by
  have ha := a.toNat_lt
  have hb := b.toNat_lt
  have hc := c.toNat_lt
  have hd := d.toNat_lt
  have e1 : (a.toNat * 16777216) ||| (b.toNat * 65536) = a.toNat * 16777216 + b.toNat * 65536 := by
    have := or_add 24 a.toNat (b.toNat * 65536) (by omega)
    rw [show 2 ^ 24 * a.toNat = a.toNat * 16777216 by omega] at this; exact this
  have e2 : (a.toNat * 16777216 + b.toNat * 65536) ||| (c.toNat * 256) = a.toNat * 16777216 + b.toNat * 65536 + c.toNat * 256 := by
    have := or_add 16 (a.toNat * 256 + b.toNat) (c.toNat * 256) (by omega)
    rw [show 2 ^ 16 * (a.toNat * 256 + b.toNat) = a.toNat * 16777216 + b.toNat * 65536 by omega] at this; exact this
  have e3 : (a.toNat * 16777216 + b.toNat * 65536 + c.toNat * 256) ||| d.toNat = a.toNat * 16777216 + b.toNat * 65536 + c.toNat * 256 + d.toNat := by
    have := or_add 8 (a.toNat * 65536 + b.toNat * 256 + c.toNat) d.toNat (by omega)
    rw [show 2 ^ 8 * (a.toNat * 65536 + b.toNat * 256 + c.toNat) = a.toNat * 16777216 + b.toNat * 65536 + c.toNat * 256 by omega] at this; exact this
  have r1 := bits_word_or (a.toNat * 16777216) (b.toNat * 65536) (by omega) (by omega)
  have r2 := bits_word_or (a.toNat * 16777216 + b.toNat * 65536) (c.toNat * 256) (by omega) (by omega)
  have r3 := bits_word_or (a.toNat * 16777216 + b.toNat * 65536 + c.toNat * 256) d.toNat (by omega) (by omega)
  rw [e1] at r1; rw [e2] at r2; rw [e3] at r3
  rw [show (a.toNat : Int) * 16777216 = ((a.toNat * 16777216 : Nat) : Int) by omega, show (b.toNat : Int) * 65536 = ((b.toNat * 65536 : Nat) : Int) by omega, show (c.toNat : Int) * 256 = ((c.toNat * 256 : Nat) : Int) by omega, r1, r2, r3]
  omega
theorem four_of (s : ByteArray) (hs : s.size = 64) (k : Nat) (hk : k < 16) : ∃ (B4 : ByteArray) (c0 c1 c2 c3 : UInt8), s.extract (4 * k) (4 * k + 4) = B4 ∧ (∃ h : 4 ≤ B4.size, B4[0] = c0 ∧ B4[1] = c1 ∧ B4[2] = c2 ∧ B4[3] = c3) ∧
    bits .or .u32 (bits .or .u32 (bits .or .u32 ((c0.toNat : Int) * 16777216) ((c1.toNat : Int) * 65536)) ((c2.toNat : Int) * 256)) (c3.toNat : Int) = ((schedW s.data.toList 0 k).toNat : Int) := by
  have hsz : s.data.toList.length = 64 := hs
  have hwd := word_nat s.data.toList (0 + 4 * k) (by omega)
  rw [← schedW_first s.data.toList 0 k hk] at hwd
  refine ⟨_, _, _, _, _, rfl, ⟨by simp [ByteArray.size_extract]; omega, sub_at s _ _ 0 _ (by omega), sub_at s _ _ 1 _ (by omega), sub_at s _ _ 2 _ (by omega), sub_at s _ _ 3 _ (by omega)⟩, ?_⟩
  rw [or_word, hwd]
  simp only [Nat.zero_add, Nat.add_zero]
  rfl
set_option maxRecDepth 100000 in
set_option maxHeartbeats 1000000 in
theorem spread_any (s : ByteArray) (hs : s.size = 64) (w : World) :
    Calls Tryd.prog 26 #[.string s] w fun e w' => e = .returned (.agg (wC s.data.toList 0 64)) ∧ Below w.heap.size w w' := by
  obtain ⟨hz, hi⟩ := zero_of_info Tryd.zero64
  rw [← wC_zero s.data.toList 0] at hz
  have HZ := Lib.hid hz; have HI := Lib.hid hi; clear hz hi
  have hsz : s.data.toList.length = 64 := hs
  go_enter Tryd.func26, Tryd.ntmps26
  go_wp2_with (with_reducible refine wpList_alloc_var 45 (.agg (wC s.data.toList 0 0)) HZ.out ?_)
  have hXs : w.heap.size + 1 = (w.alloc (.cells (wC s.data.toList 0 0) 45)).heap.size := by simp
  have hXb : Below w.heap.size w (w.alloc (.cells (wC s.data.toList 0 0) 45)) := (Below.refl _ _).alloc (Nat.le_refl _) _
  have hX0 : (w.alloc (.cells (wC s.data.toList 0 0) 45)).heap[w.heap.size]? = some (.cells (wC s.data.toList 0 0) 45) := heap_alloc_last w _
  rw [hXs]
  generalize w.alloc (.cells (wC s.data.toList 0 0) 45) = X at *
  have HXS := Lib.hid hXs; have HX0 := Lib.hid hX0; clear hXs hX0
  go_loopw [9] (fun i W => ∃ k q : Nat, k ≤ 16 ∧ i = .int .i64 (k : Int) ∧ W = (X.alloc (.cells (wC s.data.toList 0 k) 45)).drewN q) (fun i _ => 16 - (intOf i).toNat)
  case atStart => exact ⟨0, 0, by omega, rfl, rfl⟩
  case round =>
    obtain ⟨k, q, hk, rfl, rfl⟩ := hrel
    by_cases hlt : k < 16
    · have hd : decide ((k : Int) < 16) = true := by simp; omega
      have hsl : ∀ W, (Instr.slice 9 (.string s) (some (.int .i64 (4 * (k : Int)))) (some (.int .i64 (4 * (k : Int) + 4))) none).run Tryd.prog W = .ok (.string (s.extract (4 * k) (4 * k + 4))) W := fun W => by
        rw [run_slice_string_lh W 9 s Tryd.underlying9 .i64 .i64 _ _ (by omega) (by omega) (by omega)]
        rw [show (4 * (k : Int)).toNat = 4 * k by omega, show (4 * (k : Int) + 4).toNat = 4 * k + 4 by omega]
      have hnx := wC_next s.data.toList 0 k (by omega)
      obtain ⟨B4, c0, c1, c2, c3, hB, ⟨hB4, hb0, hb1, hb2, hb3⟩, hw⟩ := four_of s hs k hlt
      have HS := Lib.hid hs; clear hs hsz
      rw [hB] at hsl
      have l0 := c0.toNat_lt
      have l1 := c1.toNat_lt
      have l2 := c2.toNat_lt
      have l3 := c3.toNat_lt
      have dk := arr_at X (wC s.data.toList 0 k) 45 k _ (wC_here s.data.toList 0 k (by omega))
      have bk : (k : Int) < 64 := by omega
      have HWD := Lib.hid hw; have HNX := Lib.hid hnx
      clear hB hw hnx
      generalize schedW s.data.toList 0 k = xk at *
      generalize wC s.data.toList 0 k = C at *
      go_wp2
      refine wp_region_quiet_tail 20 (by kernel_rfl) (by kernel_rfl) ?_
      simp only [List.take_succ_cons, List.take_zero, List.drop_succ_cons, List.drop_zero]
      repeat (go_big_quiet_step (fail))
      refine wpQuiet_nil ?_
      go_wp2
      go_roundw
      case rel => exact ⟨k + 1, q + 1, by omega, by go_num, by rw [arr_store, HWD.out, HNX.out]⟩
      case measure => simp [intOf]; omega
    · obtain rfl : k = 16 := by omega
      rw [show ((16 : Nat) : Int) = 16 from rfl]
      go_wp2
      go_loopw [6] (fun i W => ∃ k q : Nat, 16 ≤ k ∧ k ≤ 64 ∧ i = .int .i64 (k : Int) ∧ W = (X.alloc (.cells (wC s.data.toList 0 k) 45)).drewN q) (fun i _ => 64 - (intOf i).toNat)
      case atStart => exact ⟨16, q, by omega, by omega, rfl, rfl⟩
      case round =>
        obtain ⟨k, q, hk16, hk, rfl, rfl⟩ := hrel
        by_cases hk64 : k < 64
        · have hd64 : decide ((k : Int) < 64) = true := by simp; omega
          have hwd := schedW_next s.data.toList 0 k (by omega)
          have hnx := wC_next s.data.toList 0 k hk64
          have hal : ∀ x : Nat, x < k → ((X.alloc (.cells (wC s.data.toList 0 k) 45)).drewN q).cell? ⟨X.heap.size, x, none⟩ = some (.int .u32 ((schedW s.data.toList 0 x).toNat : Int)) := fun x hx => arr_at X _ _ x _ (wC_at s.data.toList 0 k x hx)
          have dk : ((X.alloc (.cells (wC s.data.toList 0 k) 45)).drewN q).cell? ⟨X.heap.size, k, none⟩ = some (.int .u32 0) := arr_at X (wC s.data.toList 0 k) 45 k _ (wC_here s.data.toList 0 k hk64)
          have fk : ((X.alloc (.cells (wC s.data.toList 0 k) 45)).drewN q).frozen? ⟨X.heap.size, k, none⟩ = false := by simp
          have d15 := hal (k - 15) (by omega)
          have d2 := hal (k - 2) (by omega)
          have d16 := hal (k - 16) (by omega)
          have d7 := hal (k - 7) (by omega)
          obtain ⟨n15, hn15⟩ : ∃ n, k - 15 = n := ⟨_, rfl⟩
          obtain ⟨n2, hn2⟩ : ∃ n, k - 2 = n := ⟨_, rfl⟩
          obtain ⟨n16, hn16⟩ : ∃ n, k - 16 = n := ⟨_, rfl⟩
          obtain ⟨n7, hn7⟩ : ∃ n, k - 7 = n := ⟨_, rfl⟩
          rw [hn15] at d15 hwd
          rw [hn2] at d2 hwd
          rw [hn16] at d16 hwd
          rw [hn7] at d7 hwd
          have w15 : IntKind.i64.wrap ((k : Int) - 15) = (n15 : Int) := by rw [IntKind.wrap_i64]; omega
          have w2 : IntKind.i64.wrap ((k : Int) - 2) = (n2 : Int) := by rw [IntKind.wrap_i64]; omega
          have w16 : IntKind.i64.wrap ((k : Int) - 16) = (n16 : Int) := by rw [IntKind.wrap_i64]; omega
          have w7 : IntKind.i64.wrap ((k : Int) - 7) = (n7 : Int) := by rw [IntKind.wrap_i64]; omega
          have b15 : (n15 : Int) < 64 := by omega
          have b2 : (n2 : Int) < 64 := by omega
          have b16 : (n16 : Int) < 64 := by omega
          have b7 : (n7 : Int) < 64 := by omega
          have bk : (k : Int) < 64 := by omega
          clear hal hn15 hn2 hn16 hn7
          generalize schedW s.data.toList 0 n15 = x15 at *
          generalize schedW s.data.toList 0 n2 = x2 at *
          generalize schedW s.data.toList 0 n16 = x16 at *
          generalize schedW s.data.toList 0 n7 = x7 at *
          generalize schedW s.data.toList 0 k = xk at *
          generalize wC s.data.toList 0 k = C at *
          have hsi := sched_int x16 x15 x7 x2
          rw [← hwd] at hsi
          have HSI := Lib.hid hsi; have HNX := Lib.hid hnx; have HSZ := Lib.hid hsz; have HS := Lib.hid hs
          clear hwd hsi hnx hsz hs
          generalize hW : (X.alloc (.cells C 45)).drewN q = W at *
          have HW := Lib.hid hW; clear hW
          go_wp2
          go_quiet (fail)
          go_wp2_with (go_at_call 28; refine (rotl_q _ _ (by decide) (by decide) _).mono ?_; rintro e w' ⟨rfl, rfl⟩)
          generalize hE : bits .xor .u32 (bits .xor .u32 ((rotr x15 7).toNat : Int) ((rotr x15 18).toNat : Int)) ((x15.toNat : Int) / 8) = E1
          generalize hE2 : bits .xor .u32 (bits .xor .u32 ((rotr x2 17).toNat : Int) ((rotr x2 19).toNat : Int)) ((x2.toNat : Int) / 1024) = E2
          have HSI2 := HSI.out
          rw [hE, hE2] at HSI2
          have HS2 := Lib.hid HSI2
          clear hE hE2 HSI2 HSI
          refine wp_region_quiet_tail 15 (by kernel_rfl) (by kernel_rfl) ?_
          simp only [List.take_succ_cons, List.take_zero, List.drop_succ_cons, List.drop_zero]
          repeat (go_big_quiet_step (fail))
          refine wpQuiet_nil ?_
          go_wp2
          go_roundw
          case rel => exact ⟨k + 1, _, by omega, by omega, by go_num, by rw [← HW.out, HS2.out]; simp only [World.drewN_drewN]; rw [arr_store, HNX.out]⟩
          case measure => simp [intOf]; omega
        · have hd64 : decide ((k : Int) < 64) = false := by simp; omega
          obtain rfl : k = 64 := by omega
          have hz64 := wC_size s.data.toList 0 64 (Nat.le_refl _)
          have hlen : (wC s.data.toList 0 64).toList.length = 64 := by simpa using hz64
          have hone : ∀ v ∈ (wC s.data.toList 0 64).toList, v.oneCell' = true := wC_one s.data.toList 0 64
          have hrg : ((X.alloc (.cells (wC s.data.toList 0 64) 45)).drewN q).rangeAt X.heap.size 0 (wC s.data.toList 0 64).toList := fun j v hv => by
            rw [Nat.zero_add]; exact arr_at X _ _ j v (by simpa using hv)
          generalize hCC : wC s.data.toList 0 64 = C at *
          have hcs : C.size = C.toList.length := by simp
          have hwl : w.heap.size < X.heap.size := by have := HXS.out; omega
          have hth : ((X.alloc (.cells C 45)).drewN q).there w.heap.size 0 C.size := fun j hj => by
            have hz0 := wC_size s.data.toList 0 0 (by omega)
            have hb : ((X.alloc (.cells C 45)).drewN q).heap[w.heap.size]? = some (.cells (wC s.data.toList 0 0) 45) := (((Below.refl _ _).alloc (Nat.le_refl _) _).block _ hwl).trans HX0.out
            rw [Nat.zero_add]
            refine ⟨?_, frozen_of_heap hb⟩
            rw [cell_of_heap hb, Array.getElem?_eq_getElem (by omega)]; rfl
          have hbl : Below w.heap.size w ((X.alloc (.cells C 45)).drewN q) := belowDrewN (hXb.alloc hXb.size _) q
          generalize (X.alloc (.cells C 45)).drewN q = W at *
          have HRG := Lib.hid hrg; have HTH := Lib.hid hth; have HCC := Lib.hid hCC; have HLEN := Lib.hid hlen; have HONE := Lib.hid hone; have HCS := Lib.hid hcs; have HS2 := Lib.hid hs
          clear hrg hth hCC hlen hone hcs hz64 hs hsz
          rw [show ((64 : Nat) : Int) = 64 from rfl]
          go_wp2_with (first
            | (with_reducible refine wpList_load_mid rfl 45 (.tmp 3) rfl X.heap.size 0 rfl C.toList _ HRG.out Tryd.underlying45 rfl (HI.out.trans (by rw [HLEN.out])) ?_)
            | (with_reducible refine wpList_store_mid rfl 45 (.tmp 2) (.tmp 83) rfl w.heap.size 0 C rfl rfl HTH.out (HI.out.trans (by rw [HCS.out, HLEN.out])) (by have := all_oneCell_toArray HONE.out; simpa using this) ?_))
          refine bodyPost_ret (results_cell (t := 2) (ty := 45) rfl _ _ w.heap.size C.toList _ rfl (World.rangeAt_setCells_same _ _ _ _ (by rw [← HCS.out]; exact HTH.out)) Tryd.underlying45 rfl (HI.out.trans (by rw [HLEN.out]))) rfl ⟨?_, ?_⟩
          · rw [HCC.out]
          · exact below_setCells hbl (Nat.le_refl _) _ _
end Go.Proofs.YtdflghphjhejdaaDoor
