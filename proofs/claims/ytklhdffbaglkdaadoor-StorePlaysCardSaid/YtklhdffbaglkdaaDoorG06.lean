/- Texts merged by program, in build order: HashSpread, HashStir, LaidHash, FrameLaw, HashPrinted. -/
import Derived.Test.YtklhdffbaglkdaaDoorG05
import Derived.Test.YtklhdffbaglkdaaDoorG03
import Derived.Lib.LaidTab
import Derived.LaidMore
import Derived.OpenShut
import Derived.ProofKit
import Derived.Stop.Joined
import Derived.Lib.SlBytesConst
import Derived.Test.YtklhdffbaglkdaaDoorG04
namespace Go.Proofs.YtklhdffbaglkdaaDoor
open Go.RowKit

theorem sub_at (s : ByteArray) (a b i : Nat) (h : i < (s.extract a b).size) (h' : a + i < s.size) : (s.extract a b)[i] = s[a + i] := by simp [ByteArray.getElem_extract]
theorem below_setCells {B : Nat} {w w' : World} (h : Below B w w') {g : Nat} (hg : B ≤ g) : ∀ (vs : List Value) (o : Nat), Below B w (w'.setCells g o vs) := by
  intro vs
  induction vs generalizing w' with
  | nil => exact fun _ => h
  | cons v vs ih => intro o; exact ih (h.setCell (p := ⟨g, o, none⟩) hg v) (o + 1)
theorem or_add (k x y : Nat) (hy : y < 2 ^ k) : 2 ^ k * x ||| y = 2 ^ k * x + y := (Nat.two_pow_add_eq_or_of_lt hy x).symm
theorem or_word (a b c d : UInt8) : bits .or .u32 (bits .or .u32 (bits .or .u32 ((a.toNat : Int) * 16777216) ((b.toNat : Int) * 65536)) ((c.toNat : Int) * 256)) (d.toNat : Int) = (a.toNat : Int) * 16777216 + (b.toNat : Int) * 65536 + (c.toNat : Int) * 256 + (d.toNat : Int) := by
  have ha := a.toNat_lt
  have hb := b.toNat_lt
  have hc := c.toNat_lt
  have hd := d.toNat_lt
  have e1 : (a.toNat * 16777216) ||| (b.toNat * 65536) = a.toNat * 16777216 + b.toNat * 65536 := by
    have := or_add 24 a.toNat (b.toNat * 65536) (by omega)
    rw [show 2 ^ 24 * a.toNat = a.toNat * 16777216 by omega] at this; exact this
  have e2 : (a.toNat * 16777216 + b.toNat * 65536) ||| (c.toNat * 256) = a.toNat * 16777216 + b.toNat * 65536 + c.toNat * 256 := by
    have := or_add 16 (a.toNat * 256 + b.toNat) (c.toNat * 256) (by omega)
    rw [show 2 ^ 16 * (a.toNat * 256 + b.toNat) = a.toNat * 16777216 + b.toNat * 65536 by omega] at this; exact this
  have e3 : (a.toNat * 16777216 + b.toNat * 65536 + c.toNat * 256) ||| d.toNat = a.toNat * 16777216 + b.toNat * 65536 + c.toNat * 256 + d.toNat := by
    have := or_add 8 (a.toNat * 65536 + b.toNat * 256 + c.toNat) d.toNat (by omega)
    rw [show 2 ^ 8 * (a.toNat * 65536 + b.toNat * 256 + c.toNat) = a.toNat * 16777216 + b.toNat * 65536 + c.toNat * 256 by omega] at this; exact this
  have r1 := bits_word_or (a.toNat * 16777216) (b.toNat * 65536) (by omega) (by omega)
  have r2 := bits_word_or (a.toNat * 16777216 + b.toNat * 65536) (c.toNat * 256) (by omega) (by omega)
  have r3 := bits_word_or (a.toNat * 16777216 + b.toNat * 65536 + c.toNat * 256) d.toNat (by omega) (by omega)
  rw [e1] at r1; rw [e2] at r2; rw [e3] at r3
  rw [show (a.toNat : Int) * 16777216 = ((a.toNat * 16777216 : Nat) : Int) by omega, show (b.toNat : Int) * 65536 = ((b.toNat * 65536 : Nat) : Int) by omega, show (c.toNat : Int) * 256 = ((c.toNat * 256 : Nat) : Int) by omega, r1, r2, r3]
  omega
theorem four_of (s : ByteArray) (hs : s.size = 64) (k : Nat) (hk : k < 16) : ∃ (B4 : ByteArray) (c0 c1 c2 c3 : UInt8), s.extract (4 * k) (4 * k + 4) = B4 ∧ (∃ h : 4 ≤ B4.size, B4[0] = c0 ∧ B4[1] = c1 ∧ B4[2] = c2 ∧ B4[3] = c3) ∧
    bits .or .u32 (bits .or .u32 (bits .or .u32 ((c0.toNat : Int) * 16777216) ((c1.toNat : Int) * 65536)) ((c2.toNat : Int) * 256)) (c3.toNat : Int) = ((schedW s.data.toList 0 k).toNat : Int) := by
  have hsz : s.data.toList.length = 64 := hs
  have hwd := word_nat s.data.toList (0 + 4 * k) (by omega)
  rw [← schedW_first s.data.toList 0 k hk] at hwd
  refine ⟨_, _, _, _, _, rfl, ⟨by simp [ByteArray.size_extract]; omega, sub_at s _ _ 0 _ (by omega), sub_at s _ _ 1 _ (by omega), sub_at s _ _ 2 _ (by omega), sub_at s _ _ 3 _ (by omega)⟩, ?_⟩
  rw [or_word, hwd]
  simp only [Nat.zero_add, Nat.add_zero]
  rfl
set_option maxRecDepth 100000 in
set_option maxHeartbeats 1000000 in
theorem spread_any (s : ByteArray) (hs : s.size = 64) (w : World) :
    Calls Tryd.prog 98 #[.string s] w fun e w' => e = .returned (.agg (wC s.data.toList 0 64)) ∧ Below w.heap.size w w' := by
  obtain ⟨hz, hi⟩ := zero_of_info Tryd.zero64
  rw [← wC_zero s.data.toList 0] at hz
  have HZ := Lib.hid hz; have HI := Lib.hid hi; clear hz hi
  have hsz : s.data.toList.length = 64 := hs
  go_enter Tryd.func98, Tryd.ntmps98
  go_wp2_with (with_reducible refine wpList_alloc_var 121 (.agg (wC s.data.toList 0 0)) HZ.out ?_)
  have hXs : w.heap.size + 1 = (w.alloc (.cells (wC s.data.toList 0 0) 121)).heap.size := by simp
  have hXb : Below w.heap.size w (w.alloc (.cells (wC s.data.toList 0 0) 121)) := (Below.refl _ _).alloc (Nat.le_refl _) _
  have hX0 : (w.alloc (.cells (wC s.data.toList 0 0) 121)).heap[w.heap.size]? = some (.cells (wC s.data.toList 0 0) 121) := heap_alloc_last w _
  rw [hXs]
  generalize w.alloc (.cells (wC s.data.toList 0 0) 121) = X at *
  have HXS := Lib.hid hXs; have HX0 := Lib.hid hX0; clear hXs hX0
  go_loopw [9] (fun i W => ∃ k q : Nat, k ≤ 16 ∧ i = .int .i64 (k : Int) ∧ W = (X.alloc (.cells (wC s.data.toList 0 k) 121)).drewN q) (fun i _ => 16 - (intOf i).toNat)
  case atStart => exact ⟨0, 0, by omega, rfl, rfl⟩
  case round =>
    obtain ⟨k, q, hk, rfl, rfl⟩ := hrel
    by_cases hlt : k < 16
    · have hd : decide ((k : Int) < 16) = true := by simp; omega
      have hsl : ∀ W, (Instr.slice 9 (.string s) (some (.int .i64 (4 * (k : Int)))) (some (.int .i64 (4 * (k : Int) + 4))) none).run Tryd.prog W = .ok (.string (s.extract (4 * k) (4 * k + 4))) W := fun W => by
        rw [run_slice_string_lh W 9 s Tryd.underlying9 .i64 .i64 _ _ (by omega) (by omega) (by omega)]
        rw [show (4 * (k : Int)).toNat = 4 * k by omega, show (4 * (k : Int) + 4).toNat = 4 * k + 4 by omega]
      have hnx := wC_next s.data.toList 0 k (by omega)
      obtain ⟨B4, c0, c1, c2, c3, hB, ⟨hB4, hb0, hb1, hb2, hb3⟩, hw⟩ := four_of s hs k hlt
      have HS := Lib.hid hs; clear hs hsz
      rw [hB] at hsl
      have l0 := c0.toNat_lt
      have l1 := c1.toNat_lt
      have l2 := c2.toNat_lt
      have l3 := c3.toNat_lt
      have dk := arr_at X (wC s.data.toList 0 k) 121 k _ (wC_here s.data.toList 0 k (by omega))
      have bk : (k : Int) < 64 := by omega
      have HWD := Lib.hid hw; have HNX := Lib.hid hnx
      clear hB hw hnx
      generalize schedW s.data.toList 0 k = xk at *
      generalize wC s.data.toList 0 k = C at *
      go_wp2
      refine wp_region_quiet_tail 20 (by kernel_rfl) (by kernel_rfl) ?_
      simp only [List.take_succ_cons, List.take_zero, List.drop_succ_cons, List.drop_zero]
      repeat (go_big_quiet_step (fail))
      refine wpQuiet_nil ?_
      go_wp2
      go_roundw
      case rel => exact ⟨k + 1, q + 1, by omega, by go_num, by rw [arr_store, HWD.out, HNX.out]⟩
      case measure => simp [intOf]; omega
    · obtain rfl : k = 16 := by omega
      rw [show ((16 : Nat) : Int) = 16 from rfl]
      go_wp2
      go_loopw [6] (fun i W => ∃ k q : Nat, 16 ≤ k ∧ k ≤ 64 ∧ i = .int .i64 (k : Int) ∧ W = (X.alloc (.cells (wC s.data.toList 0 k) 121)).drewN q) (fun i _ => 64 - (intOf i).toNat)
      case atStart => exact ⟨16, q, by omega, by omega, rfl, rfl⟩
      case round =>
        obtain ⟨k, q, hk16, hk, rfl, rfl⟩ := hrel
        by_cases hk64 : k < 64
        · have hd64 : decide ((k : Int) < 64) = true := by simp; omega
          have hwd := schedW_next s.data.toList 0 k (by omega)
          have hnx := wC_next s.data.toList 0 k hk64
          have hal : ∀ x : Nat, x < k → ((X.alloc (.cells (wC s.data.toList 0 k) 121)).drewN q).cell? ⟨X.heap.size, x, none⟩ = some (.int .u32 ((schedW s.data.toList 0 x).toNat : Int)) := fun x hx => arr_at X _ _ x _ (wC_at s.data.toList 0 k x hx)
          have dk : ((X.alloc (.cells (wC s.data.toList 0 k) 121)).drewN q).cell? ⟨X.heap.size, k, none⟩ = some (.int .u32 0) := arr_at X (wC s.data.toList 0 k) 121 k _ (wC_here s.data.toList 0 k hk64)
          have fk : ((X.alloc (.cells (wC s.data.toList 0 k) 121)).drewN q).frozen? ⟨X.heap.size, k, none⟩ = false := by simp
          have d15 := hal (k - 15) (by omega)
          have d2 := hal (k - 2) (by omega)
          have d16 := hal (k - 16) (by omega)
          have d7 := hal (k - 7) (by omega)
          obtain ⟨n15, hn15⟩ : ∃ n, k - 15 = n := ⟨_, rfl⟩
          obtain ⟨n2, hn2⟩ : ∃ n, k - 2 = n := ⟨_, rfl⟩
          obtain ⟨n16, hn16⟩ : ∃ n, k - 16 = n := ⟨_, rfl⟩
          obtain ⟨n7, hn7⟩ : ∃ n, k - 7 = n := ⟨_, rfl⟩
          rw [hn15] at d15 hwd
          rw [hn2] at d2 hwd
          rw [hn16] at d16 hwd
          rw [hn7] at d7 hwd
          have w15 : IntKind.i64.wrap ((k : Int) - 15) = (n15 : Int) := by rw [IntKind.wrap_i64]; omega
          have w2 : IntKind.i64.wrap ((k : Int) - 2) = (n2 : Int) := by rw [IntKind.wrap_i64]; omega
          have w16 : IntKind.i64.wrap ((k : Int) - 16) = (n16 : Int) := by rw [IntKind.wrap_i64]; omega
          have w7 : IntKind.i64.wrap ((k : Int) - 7) = (n7 : Int) := by rw [IntKind.wrap_i64]; omega
          have b15 : (n15 : Int) < 64 := by omega
          have b2 : (n2 : Int) < 64 := by omega
          have b16 : (n16 : Int) < 64 := by omega
          have b7 : (n7 : Int) < 64 := by omega
          have bk : (k : Int) < 64 := by omega
          clear hal hn15 hn2 hn16 hn7
          generalize schedW s.data.toList 0 n15 = x15 at *
          generalize schedW s.data.toList 0 n2 = x2 at *
          generalize schedW s.data.toList 0 n16 = x16 at *
          generalize schedW s.data.toList 0 n7 = x7 at *
          generalize schedW s.data.toList 0 k = xk at *
          generalize wC s.data.toList 0 k = C at *
          have hsi := sched_int x16 x15 x7 x2
          rw [← hwd] at hsi
          have HSI := Lib.hid hsi; have HNX := Lib.hid hnx; have HSZ := Lib.hid hsz; have HS := Lib.hid hs
          clear hwd hsi hnx hsz hs
          generalize hW : (X.alloc (.cells C 121)).drewN q = W at *
          have HW := Lib.hid hW; clear hW
          go_wp2
          go_quiet (fail)
          go_wp2_with (go_at_call 101; refine (rotl_q _ _ (by decide) (by decide) _).mono ?_; rintro e w' ⟨rfl, rfl⟩)
          generalize hE : bits .xor .u32 (bits .xor .u32 ((rotr x15 7).toNat : Int) ((rotr x15 18).toNat : Int)) ((x15.toNat : Int) / 8) = E1
          generalize hE2 : bits .xor .u32 (bits .xor .u32 ((rotr x2 17).toNat : Int) ((rotr x2 19).toNat : Int)) ((x2.toNat : Int) / 1024) = E2
          have HSI2 := HSI.out
          rw [hE, hE2] at HSI2
          have HS2 := Lib.hid HSI2
          clear hE hE2 HSI2 HSI
          refine wp_region_quiet_tail 15 (by kernel_rfl) (by kernel_rfl) ?_
          simp only [List.take_succ_cons, List.take_zero, List.drop_succ_cons, List.drop_zero]
          repeat (go_big_quiet_step (fail))
          refine wpQuiet_nil ?_
          go_wp2
          go_roundw
          case rel => exact ⟨k + 1, _, by omega, by omega, by go_num, by rw [← HW.out, HS2.out]; simp only [World.drewN_drewN]; rw [arr_store, HNX.out]⟩
          case measure => simp [intOf]; omega
        · have hd64 : decide ((k : Int) < 64) = false := by simp; omega
          obtain rfl : k = 64 := by omega
          have hz64 := wC_size s.data.toList 0 64 (Nat.le_refl _)
          have hlen : (wC s.data.toList 0 64).toList.length = 64 := by simpa using hz64
          have hone : ∀ v ∈ (wC s.data.toList 0 64).toList, v.oneCell' = true := wC_one s.data.toList 0 64
          have hrg : ((X.alloc (.cells (wC s.data.toList 0 64) 121)).drewN q).rangeAt X.heap.size 0 (wC s.data.toList 0 64).toList := fun j v hv => by
            rw [Nat.zero_add]; exact arr_at X _ _ j v (by simpa using hv)
          generalize hCC : wC s.data.toList 0 64 = C at *
          have hcs : C.size = C.toList.length := by simp
          have hwl : w.heap.size < X.heap.size := by have := HXS.out; omega
          have hth : ((X.alloc (.cells C 121)).drewN q).there w.heap.size 0 C.size := fun j hj => by
            have hz0 := wC_size s.data.toList 0 0 (by omega)
            have hb : ((X.alloc (.cells C 121)).drewN q).heap[w.heap.size]? = some (.cells (wC s.data.toList 0 0) 121) := (((Below.refl _ _).alloc (Nat.le_refl _) _).block _ hwl).trans HX0.out
            rw [Nat.zero_add]
            refine ⟨?_, frozen_of_heap hb⟩
            rw [cell_of_heap hb, Array.getElem?_eq_getElem (by omega)]; rfl
          have hbl : Below w.heap.size w ((X.alloc (.cells C 121)).drewN q) := belowDrewN (hXb.alloc hXb.size _) q
          generalize (X.alloc (.cells C 121)).drewN q = W at *
          have HRG := Lib.hid hrg; have HTH := Lib.hid hth; have HCC := Lib.hid hCC; have HLEN := Lib.hid hlen; have HONE := Lib.hid hone; have HCS := Lib.hid hcs; have HS2 := Lib.hid hs
          clear hrg hth hCC hlen hone hcs hz64 hs hsz
          rw [show ((64 : Nat) : Int) = 64 from rfl]
          go_wp2_with (first
            | (with_reducible refine wpList_load_mid rfl 121 (.tmp 3) rfl X.heap.size 0 rfl C.toList _ HRG.out Tryd.underlying121 rfl (HI.out.trans (by rw [HLEN.out])) ?_)
            | (with_reducible refine wpList_store_mid rfl 121 (.tmp 2) (.tmp 83) rfl w.heap.size 0 C rfl rfl HTH.out (HI.out.trans (by rw [HCS.out, HLEN.out])) (by have := all_oneCell_toArray HONE.out; simpa using this) ?_))
          refine bodyPost_ret (results_cell (t := 2) (ty := 121) rfl _ _ w.heap.size C.toList _ rfl (World.rangeAt_setCells_same _ _ _ _ (by rw [← HCS.out]; exact HTH.out)) Tryd.underlying121 rfl (HI.out.trans (by rw [HLEN.out]))) rfl ⟨?_, ?_⟩
          · rw [HCC.out]
          · exact below_setCells hbl (Nat.le_refl _) _ _
end Go.Proofs.YtklhdffbaglkdaaDoor
namespace Go.Proofs.YtklhdffbaglkdaaDoor
open Go.RowKit

/-- the table of what each round adds lies where the program laid it -/
def RoundsIn (w : World) : Prop := w.rangeAt 0 0 kCells.toList ∧ 0 < w.heap.size
theorem RoundsIn.below {w w' : World} (h : RoundsIn w) (hb : Below w.heap.size w w') : RoundsIn w' :=
  ⟨fun j v hv => (hb.cell (p := ⟨0, 0 + j, none⟩) h.2).trans (h.1 j v hv), Nat.lt_of_lt_of_le h.2 hb.size⟩
theorem info_u32 : (Tryd.prog.info? 97).map (·.size) = some 1 := by kernel_rfl
theorem run_index_u32 (W : World) (t : TypeId) (n : Nat) (cs : Array Value) (i : Nat) (v : Value) (h : Tryd.prog.underlying t = some (.array n 97)) (hi : i < n) (hc : cs[i]? = some v) :
    (Instr.index t (.agg cs) (.int .i64 (i : Int))).run Tryd.prog W = .ok v W := by
  have hs : (sizeOf 97).run Tryd.prog W = .ok 1 W := by
    cases hq : Tryd.prog.info? 97 with
    | none => have := info_u32; simp [hq] at this
    | some j =>
      have : j.size = 1 := by have := info_u32; simpa [hq] using this
      simp [sizeOf, typeInfo, hq, this]
  simp [Instr.index, run_underlying h, asIntOf, part, hs, hi, hc]
def i8Cells (a b c d e f g h : Int) : Array Value := #[.int .u32 a, .int .u32 b, .int .u32 c, .int .u32 d, .int .u32 e, .int .u32 f, .int .u32 g, .int .u32 h]
theorem i8_one (a b c d e f g h : Int) : (i8Cells a b c d e f g h).all (·.oneCell') = true := by kernel_rfl
theorem i8_size (a b c d e f g h : Int) : (i8Cells a b c d e f g h).size = 8 := rfl
theorem i8_words (s r : S8) : i8Cells (((s.a.toNat : Int) + (r.a.toNat : Int)) % 4294967296) (((s.b.toNat : Int) + (r.b.toNat : Int)) % 4294967296) (((s.c.toNat : Int) + (r.c.toNat : Int)) % 4294967296) (((s.d.toNat : Int) + (r.d.toNat : Int)) % 4294967296)
    (((s.e.toNat : Int) + (r.e.toNat : Int)) % 4294967296) (((s.f.toNat : Int) + (r.f.toNat : Int)) % 4294967296) (((s.g.toNat : Int) + (r.g.toNat : Int)) % 4294967296) (((s.h.toNat : Int) + (r.h.toNat : Int)) % 4294967296) = h0Cells (addS s r) := by
  simp only [w_add]; rfl
theorem info_eight : (Tryd.prog.info? 122).map (·.size) = some 8 := by kernel_rfl
theorem size_alloc_lit (w : World) (o : Obj) : (w.alloc o).heap.size = w.heap.size + 1 := by simp
theorem t1h_int (a b c d e f g h k w : UInt32) : (((h.toNat : Int) + ((xorW (xorW (rotr e 6) (rotr e 11)) (rotr e 25)).toNat : Int) + bits .xor .u32 (bits .and .u32 (e.toNat : Int) (f.toNat : Int)) (bits .and .u32 (bits .xor .u32 IntKind.u32.max (e.toNat : Int)) (g.toNat : Int)) + (k.toNat : Int)) % 4294967296 + (w.toNat : Int)) % 4294967296 =
    ((t1W ⟨a, b, c, d, e, f, g, h⟩ k w).toNat : Int) := by
  rw [w_not, w_and, w_and, w_xor]
  unfold t1W
  rw [← w_add, ← w_add, ← w_add, ← w_add]
  show (((h.toNat : Int) + ((up1 e).toNat : Int) + ((chW e f g).toNat : Int) + (k.toNat : Int)) % 4294967296 + (w.toNat : Int)) % 4294967296 = _
  dsimp only
  omega
theorem t2h_int (a b c d e f g h : UInt32) : (((xorW (xorW (rotr a 2) (rotr a 13)) (rotr a 22)).toNat : Int) + bits .xor .u32 (bits .xor .u32 (bits .and .u32 (a.toNat : Int) (b.toNat : Int)) (bits .and .u32 (a.toNat : Int) (c.toNat : Int))) (bits .and .u32 (b.toNat : Int) (c.toNat : Int))) % 4294967296 =
    ((t2W ⟨a, b, c, d, e, f, g, h⟩).toNat : Int) := by
  rw [w_and, w_and, w_and, w_xor, w_xor, w_add]
  rfl
set_option maxRecDepth 100000 in
set_option maxHeartbeats 1000000 in
theorem stir_any (s8 : S8) (b : ByteArray) (hb : b.size = 64) (w : World) (hr : RoundsIn w) :
    Calls Tryd.prog 89 #[.agg (h0Cells s8), .string b] w fun e w' => e = .returned (.agg (h0Cells (blockW b.data.toList 0 s8))) ∧ Below w.heap.size w w' := by
  obtain ⟨hz, hi⟩ := zero_of_info Tryd.zero64
  rw [← wC_zero b.data.toList 0] at hz
  have hsz0 := wC_size b.data.toList 0 0 (by omega)
  have hsz := wC_size b.data.toList 0 64 (Nat.le_refl _)
  have HZ := Lib.hid hz; have HI := Lib.hid hi; have HB := Lib.hid hb; have HR := Lib.hid hr; have HS0 := Lib.hid hsz0; have HS := Lib.hid hsz; clear hz hi hb hr hsz0 hsz
  have hone := all_oneCell_toArray (wC_one b.data.toList 0 64)
  have HONE : Hid ((wC b.data.toList 0 64).all (·.oneCell') = true) := Lib.hid (by simpa using hone)
  clear hone
  unfold h0Cells
  go_enter Tryd.func89, Tryd.ntmps89
  go_wp2_with fail
  refine (spread_any _ HB.out _).mono ?_
  rintro e W1 ⟨rfl, hb1⟩
  have HB1 := Lib.hid hb1; clear hb1
  go_wp2_with (first
    | (with_reducible refine wpList_alloc_var 121 (.agg (wC b.data.toList 0 0)) HZ.out ?_)
    | (refine wpList_store_new rfl 121 (.tmp 5) (.tmp 21) (wC b.data.toList 0 0) (wC b.data.toList 0 64) rfl rfl rfl (HI.out.trans (by rw [HS.out])) (by rw [HS.out, HS0.out]) HONE.out ?_))
  have hX : Below w.heap.size w (W1.alloc (.cells (wC b.data.toList 0 64) 121)) := by
    have h2 := (((Below.refl w.heap.size w).alloc (Nat.le_refl _) (.cells (h0Cells s8) 122)).alloc (by simp) (.cells #[.int .u32 0, .int .u32 0, .int .u32 0, .int .u32 0, .int .u32 0, .int .u32 0, .int .u32 0, .int .u32 0] 122))
    have h3 := h2.trans (HB1.out.mono (by simp; omega))
    exact h3.alloc h3.size _
  have hbox : (W1.alloc (.cells (wC b.data.toList 0 64) 121)).heap[w.heap.size]? = some (.cells (h0Cells s8) 122) := by
    have h1 : ((w.alloc (.cells (h0Cells s8) 122)).alloc (.cells #[.int .u32 0, .int .u32 0, .int .u32 0, .int .u32 0, .int .u32 0, .int .u32 0, .int .u32 0, .int .u32 0] 122)).heap[w.heap.size]? = some (.cells (h0Cells s8) 122) :=
      (Below.heap_alloc _ _ _ (by simp)).trans (heap_alloc_last w _)
    have h2 := HB1.out.block w.heap.size (by simp; omega)
    have h3 : w.heap.size < W1.heap.size := by have := HB1.out.size; simp at this; omega
    exact (Below.heap_alloc _ _ _ h3).trans (h2.trans h1)
  have hout : (W1.alloc (.cells (wC b.data.toList 0 64) 121)).heap[w.heap.size + 1]? = some (.cells #[.int .u32 0, .int .u32 0, .int .u32 0, .int .u32 0, .int .u32 0, .int .u32 0, .int .u32 0, .int .u32 0] 122) := by
    have h1 := heap_alloc_last (w.alloc (.cells (h0Cells s8) 122)) (.cells #[.int .u32 0, .int .u32 0, .int .u32 0, .int .u32 0, .int .u32 0, .int .u32 0, .int .u32 0, .int .u32 0] 122)
    simp only [size_alloc_lit] at h1
    have h2 := HB1.out.block (w.heap.size + 1) (by simp)
    have h3 : w.heap.size + 1 < W1.heap.size := by have := HB1.out.size; simp at this; omega
    exact (Below.heap_alloc _ _ _ h3).trans (h2.trans h1)
  have hwd : ∀ i, i < 64 → (W1.alloc (.cells (wC b.data.toList 0 64) 121)).cell? ⟨W1.heap.size, i, none⟩ = some (.int .u32 ((schedW b.data.toList 0 i).toNat : Int)) := fun i hi => arr_at W1 _ _ i _ (wC_at b.data.toList 0 64 i hi)
  have hrd : RoundsIn (W1.alloc (.cells (wC b.data.toList 0 64) 121)) := HR.out.below hX
  generalize W1.alloc (.cells (wC b.data.toList 0 64) 121) = X at *
  generalize W1.heap.size = bw at *
  simp only [Act.put, List.setIfInBounds_toArray, List.set_cons_succ, List.set_cons_zero]
  have c0 : X.cell? ⟨w.heap.size, 0, none⟩ = some (.int .u32 (s8.a.toNat : Int)) := cell_of_heap hbox 0
  have c1 : X.cell? ⟨w.heap.size, 1, none⟩ = some (.int .u32 (s8.b.toNat : Int)) := cell_of_heap hbox 1
  have c2 : X.cell? ⟨w.heap.size, 2, none⟩ = some (.int .u32 (s8.c.toNat : Int)) := cell_of_heap hbox 2
  have c3 : X.cell? ⟨w.heap.size, 3, none⟩ = some (.int .u32 (s8.d.toNat : Int)) := cell_of_heap hbox 3
  have c4 : X.cell? ⟨w.heap.size, 4, none⟩ = some (.int .u32 (s8.e.toNat : Int)) := cell_of_heap hbox 4
  have c5 : X.cell? ⟨w.heap.size, 5, none⟩ = some (.int .u32 (s8.f.toNat : Int)) := cell_of_heap hbox 5
  have c6 : X.cell? ⟨w.heap.size, 6, none⟩ = some (.int .u32 (s8.g.toNat : Int)) := cell_of_heap hbox 6
  have c7 : X.cell? ⟨w.heap.size, 7, none⟩ = some (.int .u32 (s8.h.toNat : Int)) := cell_of_heap hbox 7
  have HX := Lib.hid hX; have HOUT := Lib.hid hout; have HWD := Lib.hid hwd; have HRD := Lib.hid hrd
  have HBOX := Lib.hid hbox
  clear hX hout hwd hrd hbox HB1
  go_quiet (fail)
  generalize wC b.data.toList 0 64 = CW
  have hrd2 : (X.drewN nq).rangeAt 0 0 kCells.toList := HRD.out.1
  have hlk : kCells.toList.length = 64 := by rw [Array.length_toList]; exact kCells_size
  have hkat := kCells_at
  generalize kCells = KA at *
  have HKA := Lib.hid hkat; have HRD2 := Lib.hid hrd2; have HLK := Lib.hid hlk
  clear hkat hrd2 hlk c0 c1 c2 c3 c4 c5 c6 c7
  go_wp2_with (with_reducible refine wpList_load_mid rfl 121 (.global 0) rfl 0 0 rfl KA.toList _ HRD2.out Tryd.underlying121 rfl (HI.out.trans (by rw [HLK.out])) ?_)
  go_loopw [6, 7, 8, 9, 10, 11, 12, 13, 39] (fun a0 a1 a2 a3 a4 a5 a6 a7 i W => ∃ k q : Nat, k ≤ 64 ∧ i = .int .i64 (k : Int) ∧ W = X.drewN q ∧ a0 = .int .u32 ((roundsW b.data.toList 0 s8 k).a.toNat : Int) ∧ a1 = .int .u32 ((roundsW b.data.toList 0 s8 k).b.toNat : Int) ∧ a2 = .int .u32 ((roundsW b.data.toList 0 s8 k).c.toNat : Int) ∧ a3 = .int .u32 ((roundsW b.data.toList 0 s8 k).d.toNat : Int) ∧
    a4 = .int .u32 ((roundsW b.data.toList 0 s8 k).e.toNat : Int) ∧ a5 = .int .u32 ((roundsW b.data.toList 0 s8 k).f.toNat : Int) ∧ a6 = .int .u32 ((roundsW b.data.toList 0 s8 k).g.toNat : Int) ∧ a7 = .int .u32 ((roundsW b.data.toList 0 s8 k).h.toNat : Int)) (fun _ _ _ _ _ _ _ _ i _ => 64 - (intOf i).toNat)
  case atStart => exact ⟨0, _, by omega, rfl, rfl, rfl, rfl, rfl, rfl, rfl, rfl, rfl, rfl⟩
  case round =>
    obtain ⟨k, q, hk, rfl, rfl, rfl, rfl, rfl, rfl, rfl, rfl, rfl, rfl⟩ := hrel
    by_cases hk64 : k < 64
    · have hd64 : decide ((k : Int) < 64) = true := by simp; omega
      have bk : (k : Int) < 64 := by omega
      have hnx : roundsW b.data.toList 0 s8 (k + 1) = roundW (roundsW b.data.toList 0 s8 k) (kAt k) (schedW b.data.toList 0 k) := rfl
      have hka := HKA.out k hk64
      have dW : (X.drewN q).cell? ⟨bw, k, none⟩ = some (.int .u32 ((schedW b.data.toList 0 k).toNat : Int)) := HWD.out k hk64
      have hix : ∀ W, (Instr.index 121 (.agg KA) (.int .i64 (k : Int))).run Tryd.prog W = .ok (.int .u32 ((kAt k).toNat : Int)) W := fun W => run_index_u32 W _ _ KA k _ Tryd.underlying121 hk64 hka
      clear hka
      generalize kAt k = kk at *
      generalize schedW b.data.toList 0 k = ww at *
      generalize roundsW b.data.toList 0 s8 k = r at *
      obtain ⟨ra, rb, rc, rd, re, rf, rg, rh⟩ := r
      have HIX := Lib.hid hix; clear hix
      have HNX := Lib.hid hnx; clear hnx
      have ht1 := t1h_int ra rb rc rd re rf rg rh kk ww
      have ht2 := t2h_int ra rb rc rd re rf rg rh
      have hv1 := w_add (t1W ⟨ra, rb, rc, rd, re, rf, rg, rh⟩ kk ww) (t2W ⟨ra, rb, rc, rd, re, rf, rg, rh⟩)
      have hv2 := w_add rd (t1W ⟨ra, rb, rc, rd, re, rf, rg, rh⟩ kk ww)
      have HNX2 : Hid (roundsW b.data.toList 0 s8 (k + 1) = ⟨addW (t1W ⟨ra, rb, rc, rd, re, rf, rg, rh⟩ kk ww) (t2W ⟨ra, rb, rc, rd, re, rf, rg, rh⟩), ra, rb, rc, addW rd (t1W ⟨ra, rb, rc, rd, re, rf, rg, rh⟩ kk ww), re, rf, rg⟩) := Lib.hid HNX.out
      generalize t1W ⟨ra, rb, rc, rd, re, rf, rg, rh⟩ kk ww = xx at *
      generalize t2W ⟨ra, rb, rc, rd, re, rf, rg, rh⟩ = yy at *
      have HT1 := Lib.hid ht1; have HT2 := Lib.hid ht2; have HV1 := Lib.hid hv1; have HV2 := Lib.hid hv2
      clear ht1 ht2 hv1 hv2 HNX
      generalize hW : X.drewN q = W at *
      have HW := Lib.hid hW; clear hW
      dsimp only
      go_wp2
      rw [HIX.out]
      simp only [Result.andThen_ok]
      rw [Oper.upon_value]
      repeat go_step
      have hif : (if IntKind.u32.signed = true then (-1 : Int) else IntKind.u32.max) = IntKind.u32.max := rfl
      rw [hif]
      clear hif
      refine wp_region_quiet_lit (by kernel_rfl) (by kernel_rfl) ?_
      repeat (go_big_quiet_step ((go_at_call 99; exact Calls.quiet_of_same (turned_q _ _ _ _ (by decide) (by decide) (by decide) (by decide) (by decide) (by decide) _))))
      refine wpQuiet_nil ?_
      intro _ hw
      obtain ⟨nq2, rfl⟩ := hw
      rw [HT1.out]
      generalize bits .xor .u32 (bits .and .u32 (re.toNat : Int) (rf.toNat : Int)) (bits .and .u32 (bits .xor .u32 IntKind.u32.max (re.toNat : Int)) (rg.toNat : Int)) = ch
      go_wp2_with (go_at_call 99; refine (turned_q _ _ _ _ (by decide) (by decide) (by decide) (by decide) (by decide) (by decide) _).mono ?_; rintro e w' ⟨rfl, rfl⟩)
      have HWN := World.drewN_drewN (w := X) (n := q) (m := nq2)
      rw [HW.out] at HWN
      refine ⟨⟨k + 1, q + nq2, by omega, by go_num, HWN, ?_, ?_, ?_, ?_, ?_, ?_, ?_, ?_⟩, by simp [intOf]; omega⟩
      · rw [HT2.out, HV1.out, HNX2.out]
      · rw [HNX2.out]
      · rw [HNX2.out]
      · rw [HNX2.out]
      · rw [HV2.out, HNX2.out]
      · rw [HNX2.out]
      · rw [HNX2.out]
      · rw [HNX2.out]
    · obtain rfl : k = 64 := by omega
      have hgoal : blockW b.data.toList 0 s8 = addS s8 (roundsW b.data.toList 0 s8 64) := rfl
      generalize roundsW b.data.toList 0 s8 64 = r at *
      have HG := Lib.hid hgoal; clear hgoal
      have hbox := HBOX.out
      have c0 : (X.drewN q).cell? ⟨w.heap.size, 0, none⟩ = some (.int .u32 (s8.a.toNat : Int)) := cell_of_heap hbox 0
      have c1 : (X.drewN q).cell? ⟨w.heap.size, 1, none⟩ = some (.int .u32 (s8.b.toNat : Int)) := cell_of_heap hbox 1
      have c2 : (X.drewN q).cell? ⟨w.heap.size, 2, none⟩ = some (.int .u32 (s8.c.toNat : Int)) := cell_of_heap hbox 2
      have c3 : (X.drewN q).cell? ⟨w.heap.size, 3, none⟩ = some (.int .u32 (s8.d.toNat : Int)) := cell_of_heap hbox 3
      have c4 : (X.drewN q).cell? ⟨w.heap.size, 4, none⟩ = some (.int .u32 (s8.e.toNat : Int)) := cell_of_heap hbox 4
      have c5 : (X.drewN q).cell? ⟨w.heap.size, 5, none⟩ = some (.int .u32 (s8.f.toNat : Int)) := cell_of_heap hbox 5
      have c6 : (X.drewN q).cell? ⟨w.heap.size, 6, none⟩ = some (.int .u32 (s8.g.toNat : Int)) := cell_of_heap hbox 6
      have c7 : (X.drewN q).cell? ⟨w.heap.size, 7, none⟩ = some (.int .u32 (s8.h.toNat : Int)) := cell_of_heap hbox 7
      have hth : (X.drewN q).there (w.heap.size + 1) 0 8 := fun j hj => by
        have hb : (X.drewN q).heap[w.heap.size + 1]? = some (.cells #[.int .u32 0, .int .u32 0, .int .u32 0, .int .u32 0, .int .u32 0, .int .u32 0, .int .u32 0, .int .u32 0] 122) := HOUT.out
        rw [Nat.zero_add]
        refine ⟨?_, frozen_of_heap hb⟩
        rw [cell_of_heap hb, Array.getElem?_eq_getElem (by simpa using hj)]; rfl
      have hbl : Below w.heap.size w (X.drewN q) := belowDrewN HX.out q
      generalize X.drewN q = W at *
      have HTH := Lib.hid hth
      clear hth hbox
      rw [show ((64 : Nat) : Int) = 64 from rfl]
      have HIE := Lib.hid info_eight
      iterate 117 go_step
      refine wpList_store_mid (P := Tryd.prog) rfl 122 (.tmp 4) (.tmp 123) rfl (w.heap.size + 1) 0 (i8Cells (((s8.a.toNat : Int) + (r.a.toNat : Int)) % 4294967296) (((s8.b.toNat : Int) + (r.b.toNat : Int)) % 4294967296) (((s8.c.toNat : Int) + (r.c.toNat : Int)) % 4294967296) (((s8.d.toNat : Int) + (r.d.toNat : Int)) % 4294967296) (((s8.e.toNat : Int) + (r.e.toNat : Int)) % 4294967296) (((s8.f.toNat : Int) + (r.f.toNat : Int)) % 4294967296) (((s8.g.toNat : Int) + (r.g.toNat : Int)) % 4294967296) (((s8.h.toNat : Int) + (r.h.toNat : Int)) % 4294967296)) rfl rfl (by rw [i8_size]; exact HTH.out) (HIE.out.trans (by rw [i8_size])) (i8_one _ _ _ _ _ _ _ _) ?_
      rw [i8_words]
      repeat go_step

      refine bodyPost_ret (results_cell (t := 4) (ty := 122) rfl _ _ (w.heap.size + 1) (h0Cells (addS s8 r)).toList _ rfl ?_ Tryd.underlying122 rfl HIE.out) rfl ⟨?_, ?_⟩
      · exact World.rangeAt_setCells_same _ _ _ _ HTH.out
      · rw [HG.out]; rfl
      · exact below_setCells hbl (by omega) _ _
end Go.Proofs.YtklhdffbaglkdaaDoor
namespace Go.Proofs.YtklhdffbaglkdaaDoor
open Go.ChangeShapes Go.WideShapes Go.ChangeAt Go.RowKit

/-- what the rows list -/
def listed : List (String × DataW Unit) := [("exequatur/hash.rounds", Rows.laid_exequatur_hash_rounds)]
def kInts : List Int := kL.map fun x => (x.toNat : Int)
theorem listed_eq : listed = [("exequatur/hash.rounds", Lib.tabData .u32 kInts)] := by kernel_rfl
theorem gRounds : Tryd.prog.globalNamed "exequatur/hash.rounds" = some 0 := by kernel_rfl
theorem tRounds : (Tryd.prog.globals[0]?).map (·.type) = some 121 := by kernel_rfl
theorem cellsWord : Tryd.prog.cellsOf 97 = 1 := by kernel_rfl
theorem cellsRounds : Tryd.prog.cellsOf 121 = 64 := by kernel_rfl
theorem kInts_len : kInts.length = 64 := by kernel_rfl
theorem roundsIn_of_laid {W : World} (h : laidMetH Tryd.prog listed W) : RoundsIn W := by
  rw [MakeChecks.laidMetH_plain _ _ _ (by kernel_rfl), listed_eq] at h
  have hT := Lib.tabIs_of_head gRounds tRounds Tryd.underlying121 Tryd.underlying97 cellsWord cellsRounds h
  have hc := fun i (hi : i < 64) => hT.cell gRounds i (by rw [kInts_len]; exact hi)
  refine ⟨fun j v hv => ?_, ?_⟩
  · rw [Nat.zero_add]
    have hj : j < 64 := by
      have := (List.getElem?_eq_some_iff.1 hv).1
      rw [Array.length_toList, kCells_size] at this; exact this
    rw [hc j hj, ← hv]
    have h1 := kCells_at j hj
    rw [← Array.getElem?_toList] at h1
    rw [h1]
    have hl : j < kL.length := hj
    simp [kInts, kAt, List.getD, hl]
  · have h0 := hc 0 (by decide)
    refine Nat.lt_of_not_le fun hle => ?_
    have : W.cell? ⟨0, 0, none⟩ = none := by
      simp [World.cell?, Array.getElem?_eq_none hle]
    rw [this] at h0; cases h0
theorem door_met (os : Os) (args : Array Value) : laidMetH Tryd.prog listed ((World.doorLaid Tryd.prog 400 os).forCall (fun _ _ => 0) ⟨#[], args, []⟩).memory :=
  laidMetH_of_parts3 (fuel := 8) (laidMet_of_run' 8 (by kernel_rfl) (by kernel_rfl)) (by kernel_rfl) (by kernel_rfl)
end Go.Proofs.YtklhdffbaglkdaaDoor
namespace Go.Proofs.YtklhdffbaglkdaaDoor
open Go.RowKit
set_option linter.unusedVariables false
set_option linter.unusedSimpArgs false

/-- what the code's frames do -/
structure CodeFrame : Prop where
  frame : ∀ (w : World) (A : Option Addr) (c : Nat) (l : List UInt8), l.length ≤ 100000 → RoundsIn w → RdW w (.slice A l.length c) l → Calls Tryd.prog 59 #[.slice A l.length c] w fun e w' =>
    (∃ v, e = .returned v ∧ RdAt w' v (frameL l) ∧ ∀ g, v.ownBlock = some g → w.heap.size ≤ g) ∧ Below w.heap.size w w'
  split : ∀ (w : World) (A : Option Addr) (c : Nat) (b : List UInt8), b.length ≤ 100000 → RoundsIn w → RdW w (.slice A b.length c) b → Calls Tryd.prog 30 #[.slice A b.length c] w fun e w' =>
    (∃ v, e = .returned (.tuple #[v, .int .i64 ((splitL b).2 : Nat)]) ∧ RdB w' v (splitL b).1) ∧ Below w.heap.size w w'
theorem take_eq_more {α : Type} {a b : List α} {k : Nat} (h : a.take k = b.take k) (ha : k < a.length) (hb : k < b.length) (he : a[k] = b[k]) : a.take (k + 1) = b.take (k + 1) := by
  rw [List.take_succ_eq_append_getElem ha, List.take_succ_eq_append_getElem hb, h, he]
end Go.Proofs.YtklhdffbaglkdaaDoor
namespace Go.Proofs.YtklhdffbaglkdaaDoor
open Go.RowKit

theorem Tryd.zero32 : (Tryd.prog.info? 150).map (fun i => (i.zero, i.size)) = some (some (.agg (Array.replicate 32 (.int .u8 0))), 32) := by kernel_rfl
/-- an array of bytes, so far -/
def bC (n : Nat) (l : List UInt8) : Array Value := (cells l).toArray ++ Array.replicate (n - l.length) (.int .u8 0)
theorem bC_zero (n : Nat) : bC n [] = Array.replicate n (.int .u8 0) := by simp [bC, cells]
theorem bC_size (n : Nat) (l : List UInt8) (h : l.length ≤ n) : (bC n l).size = n := by simp [bC, cells]; omega
theorem bC_at (n : Nat) (l : List UInt8) (j : Nat) (h : j < l.length) : (bC n l)[j]? = some (.int .u8 (l[j].toNat : Int)) := by
  unfold bC cells
  rw [Array.getElem?_append_left (by simpa using h)]
  simp [h]
theorem bC_here (n : Nat) (l : List UInt8) (h : l.length < n) : (bC n l)[l.length]? = some (.int .u8 0) := by
  unfold bC cells
  rw [Array.getElem?_append_right (by simp), Array.getElem?_replicate, if_pos (by simp; omega)]
theorem bC_next (n : Nat) (l : List UInt8) (c : UInt8) (h : l.length < n) : (bC n l).setIfInBounds l.length (.int .u8 (c.toNat : Int)) = bC n (l ++ [c]) := by
  apply Array.ext_getElem?
  intro j
  rw [Array.getElem?_setIfInBounds, bC_size n l (by omega)]
  by_cases hj : l.length = j
  · subst hj
    rw [if_pos rfl, if_pos h, bC_at n (l ++ [c]) l.length (by simp)]
    simp
  · rw [if_neg hj]
    by_cases hjk : j < l.length
    · rw [bC_at n l j hjk, bC_at n (l ++ [c]) j (by simp; omega)]
      simp [List.getElem_append_left hjk]
    · unfold bC cells
      rw [Array.getElem?_append_right (by simp; omega), Array.getElem?_append_right (by simp; omega)]
      simp only [Array.getElem?_replicate, List.size_toArray, List.length_map, List.length_append, List.length_cons, List.length_nil]
      by_cases h64 : j < n
      · rw [if_pos (by omega), if_pos (by omega)]
      · rw [if_neg (by omega), if_neg (by omega)]
theorem byte4_at (x : UInt32) (j : Nat) (hj : j < 4) : (((byte4 x).getD j 0).toNat : Int) = (x.toNat : Int) / 2 ^ (24 - 8 * j) % 256 := by
  have hx := x.toNat_lt
  have e : ∀ n : Nat, ((UInt8.ofNat n).toNat : Int) = (n : Int) % 256 := fun n => by rw [UInt8.toNat_ofNat']; omega
  match j, hj with
  | 0, _ => exact (e _).trans (by simp)
  | 1, _ => exact (e _).trans (by simp)
  | 2, _ => exact (e _).trans (by simp)
  | 3, _ => exact (e _).trans (by simp)
theorem conv_arr (w : World) (l : List UInt8) (cs : Array Value) (e : TypeId) (n c : Nat) (hn : n = l.length) (h : cs.toList = cells l) :
    (convert 40 9 (.slice (some ⟨w.heap.size, 0, none⟩) n c)).run Tryd.prog (w.alloc (.cells cs e)) = .ok (.string ⟨l.toArray⟩) (w.alloc (.cells cs e)) := by
  subst hn
  refine run_convert_bytes_back (P := Tryd.prog) _ 40 9 5 ⟨w.heap.size, 0, none⟩ c l Tryd.underlying40 Tryd.underlying5 Tryd.underlying9 (fun j hj => ?_)
  exact new_cells w cs e j _ (by rw [h]; simp [cells, hj])
set_option maxRecDepth 100000 in
set_option maxHeartbeats 1000000 in
theorem printed_any (s : S8) (w : World) :
    Calls Tryd.prog 91 #[.agg (h0Cells s)] w fun e w' => e = .returned (.string ⟨(outL s).toArray⟩) ∧ Below w.heap.size w w' := by
  obtain ⟨hz, hi⟩ := zero_of_info Tryd.zero32
  rw [← bC_zero 32] at hz
  have HZ := Lib.hid hz; have HI := Lib.hid hi; clear hz hi
  unfold h0Cells
  go_enter Tryd.func91, Tryd.ntmps91
  go_wp2_with (with_reducible refine wpList_alloc_var 150 (.agg (bC 32 [])) HZ.out ?_)
  have he : (#[.int .u32 (s.a.toNat : Int), .int .u32 (s.b.toNat : Int), .int .u32 (s.c.toNat : Int), .int .u32 (s.d.toNat : Int), .int .u32 (s.e.toNat : Int), .int .u32 (s.f.toNat : Int), .int .u32 (s.g.toNat : Int), .int .u32 (s.h.toNat : Int)] : Array Value) = eightC s.get := rfl
  rw [he]
  clear he
  have hat := eightC_at s.get
  generalize eightC s.get = E8 at *
  have hXb : Below w.heap.size w (w.alloc (.cells E8 122)) := (Below.refl _ _).alloc (Nat.le_refl _) _
  have hXs : w.heap.size + 1 = (w.alloc (.cells E8 122)).heap.size := by simp
  rw [hXs]
  generalize w.alloc (.cells E8 122) = X at *
  have HAT := Lib.hid hat; clear hat hXs
  go_loopw [8] (fun i W => ∃ k : Nat, k ≤ 8 ∧ i = .int .i64 (k : Int) ∧ W = X.alloc (.cells (bC 32 (outN s k)) 150)) (fun i _ => 8 - (intOf i).toNat)
  case atStart => exact ⟨0, by omega, rfl, rfl⟩
  case round =>
    obtain ⟨k, hk, rfl, rfl⟩ := hrel
    by_cases hlt : k < 8
    · have hd : decide ((k : Int) < 8) = true := by simp; omega
      have hix := run_index_u32 (X.alloc (.cells (bC 32 (outN s k)) 150)) 122 8 E8 k _ Tryd.underlying122 hlt (HAT.out k hlt)
      have hl := outN_len s k
      have hn : outN s (k + 1) = outN s k ++ byte4 (s.get k) := rfl
      generalize s.get k = x at *
      generalize outN s k = O at *
      have HIX := Lib.hid hix; have HL := Lib.hid hl; have HN := Lib.hid hn; clear hix hl hn
      go_wp2
      rw [HIX.out]
      simp only [Result.andThen_ok]
      rw [Oper.upon_value]
      go_wp2
      go_loopw [12] (fun i W => ∃ j : Nat, j ≤ 4 ∧ i = .int .i64 (j : Int) ∧ W = X.alloc (.cells (bC 32 (O ++ (byte4 x).take j)) 150)) (fun i _ => 4 - (intOf i).toNat)
      case atStart => exact ⟨0, by omega, rfl, by simp⟩
      case round =>
        obtain ⟨j, hj, rfl, rfl⟩ := hrel
        by_cases hj4 : j < 4
        · have hlen : (O ++ (byte4 x).take j).length = 4 * k + j := by
            have h4 : (byte4 x).length = 4 := rfl
            rw [List.length_append, HL.out, List.length_take, h4]; omega
          have hhere := arr_at X (bC 32 (O ++ (byte4 x).take j)) 150 _ _ (bC_here 32 (O ++ (byte4 x).take j) (by omega))
          have hnx := bC_next 32 (O ++ (byte4 x).take j) ((byte4 x).getD j 0) (by omega)
          have htk : O ++ (byte4 x).take j ++ [(byte4 x).getD j 0] = O ++ (byte4 x).take (j + 1) := by
            have h4 : j < (byte4 x).length := hj4
            rw [List.take_succ_eq_append_getElem h4, List.append_assoc]
            simp [List.getD, h4]
          rw [htk] at hnx
          rw [hlen] at hnx hhere
          have hi : (4 * (k : Int) + (j : Int)) < 32 := by omega
          generalize hC : bC 32 (O ++ (byte4 x).take j) = C at *
          have HNX := Lib.hid hnx; have HLEN := Lib.hid hlen; have HTK := Lib.hid htk; have HC := Lib.hid hC; clear hnx hlen htk hC
          go_wp2
          rw [byte4_at x j hj4] at HNX
          exact ⟨⟨j + 1, by omega, by go_num, by rw [HNX.out]⟩, by simp [intOf]; omega⟩
        · obtain rfl : j = 4 := by omega
          have h4 : (byte4 x).take 4 = byte4 x := rfl
          rw [h4, show ((4 : Nat) : Int) = 4 from rfl]
          go_wp2
          exact ⟨⟨k + 1, by omega, by go_num, by rw [HN.out]⟩, by simp [intOf]; omega⟩
    · obtain rfl : k = 8 := by omega
      rw [outN_all, show ((8 : Nat) : Int) = 8 from rfl]
      have hc8 : bC 32 (outL s) = (cells (outL s)).toArray := by
        unfold bC; rw [outL_len]; simp
      have hcv := fun n c hn => conv_arr X (outL s) (cells (outL s)).toArray 150 n c hn rfl
      have hcv32 := hcv 32 32 (outL_len s)
      rw [hc8]
      have hbl : Below w.heap.size w (X.alloc (.cells (cells (outL s)).toArray 150)) := hXb.alloc hXb.size _
      generalize (cells (outL s)).toArray = C at *
      clear hcv hc8
      go_wp2
      go_ret
      exact ⟨rfl, hbl⟩
end Go.Proofs.YtklhdffbaglkdaaDoor
