/- Texts merged by program, in build order: HashStir, LaidHash, FrameLaw, HashPrinted, HashEnding, Mac. -/
import Derived.Test.YtkbjpgfdmkmbmaaGreatDoorG03
import Derived.Lib.LaidTab
import Derived.LaidMore
import Derived.OpenShut
import Derived.ProofKit
import Derived.Stop.Joined
import Derived.Stop.LaidErr
import Derived.Lib.SlBytesConst
import Derived.Lib.BufferWrite
import Derived.Lib.LazyBuf
set_option linter.unusedVariables false
set_option linter.unusedSimpArgs false
namespace Go.Proofs.YtkbjpgfdmkmbmaaGreatDoor
open Go.RowKit

/-- the table of what each round adds lies where the program laid it -/
def RoundsIn (w : World) : Prop := w.rangeAt 1 0 kCells.toList ∧ 1 < w.heap.size
theorem RoundsIn.below {w w' : World} (h : RoundsIn w) (hb : Below w.heap.size w w') : RoundsIn w' :=
  ⟨fun j v hv => (hb.cell (p := ⟨1, 0 + j, none⟩) h.2).trans (h.1 j v hv), Nat.lt_of_lt_of_le h.2 hb.size⟩
theorem info_u32 : (Tryz.prog.info? 94).map (·.size) = some 1 := by kernel_rfl
theorem run_index_u32 (W : World) (t : TypeId) (n : Nat) (cs : Array Value) (i : Nat) (v : Value) (h : Tryz.prog.underlying t = some (.array n 94)) (hi : i < n) (hc : cs[i]? = some v) :
    (Instr.index t (.agg cs) (.int .i64 (i : Int))).run Tryz.prog W = .ok v W := by
  have hs : (sizeOf 94).run Tryz.prog W = .ok 1 W := by
    cases hq : Tryz.prog.info? 94 with
    | none => have := info_u32; simp [hq] at this
    | some j =>
      have : j.size = 1 := by have := info_u32; simpa [hq] using this
      simp [sizeOf, typeInfo, hq, this]
  simp [Instr.index, run_underlying h, asIntOf, part, hs, hi, hc]
def i8Cells (a b c d e f g h : Int) : Array Value := #[.int .u32 a, .int .u32 b, .int .u32 c, .int .u32 d, .int .u32 e, .int .u32 f, .int .u32 g, .int .u32 h]
theorem i8_one (a b c d e f g h : Int) : (i8Cells a b c d e f g h).all (·.oneCell') = true := by kernel_rfl
theorem i8_size (a b c d e f g h : Int) : (i8Cells a b c d e f g h).size = 8 := rfl
theorem i8_words (s r : S8) : i8Cells (((s.a.toNat : Int) + (r.a.toNat : Int)) % 4294967296) (((s.b.toNat : Int) + (r.b.toNat : Int)) % 4294967296) (((s.c.toNat : Int) + (r.c.toNat : Int)) % 4294967296) (((s.d.toNat : Int) + (r.d.toNat : Int)) % 4294967296)
    (((s.e.toNat : Int) + (r.e.toNat : Int)) % 4294967296) (((s.f.toNat : Int) + (r.f.toNat : Int)) % 4294967296) (((s.g.toNat : Int) + (r.g.toNat : Int)) % 4294967296) (((s.h.toNat : Int) + (r.h.toNat : Int)) % 4294967296) = h0Cells (addS s r) := by
  simp only [w_add]; rfl
theorem info_eight : (Tryz.prog.info? 137).map (·.size) = some 8 := by kernel_rfl
theorem size_alloc_lit (w : World) (o : Obj) : (w.alloc o).heap.size = w.heap.size + 1 := by simp
theorem t1h_int (a b c d e f g h k w : UInt32) : (((h.toNat : Int) + ((xorW (xorW (rotr e 6) (rotr e 11)) (rotr e 25)).toNat : Int) + bits .xor .u32 (bits .and .u32 (e.toNat : Int) (f.toNat : Int)) (bits .and .u32 (bits .xor .u32 IntKind.u32.max (e.toNat : Int)) (g.toNat : Int)) + (k.toNat : Int)) % 4294967296 + (w.toNat : Int)) % 4294967296 =
    ((t1W ⟨a, b, c, d, e, f, g, h⟩ k w).toNat : Int) := by
  rw [w_not, w_and, w_and, w_xor]
  unfold t1W
  rw [← w_add, ← w_add, ← w_add, ← w_add]
  show (((h.toNat : Int) + ((up1 e).toNat : Int) + ((chW e f g).toNat : Int) + (k.toNat : Int)) % 4294967296 + (w.toNat : Int)) % 4294967296 = _
  dsimp only
  omega
theorem t2h_int (a b c d e f g h : UInt32) : (((xorW (xorW (rotr a 2) (rotr a 13)) (rotr a 22)).toNat : Int) + bits .xor .u32 (bits .xor .u32 (bits .and .u32 (a.toNat : Int) (b.toNat : Int)) (bits .and .u32 (a.toNat : Int) (c.toNat : Int))) (bits .and .u32 (b.toNat : Int) (c.toNat : Int))) % 4294967296 =
    ((t2W ⟨a, b, c, d, e, f, g, h⟩).toNat : Int) := by
  rw [w_and, w_and, w_and, w_xor, w_xor, w_add]
  rfl
set_option maxRecDepth 100000 in
set_option maxHeartbeats 1000000 in
theorem stir_any (s8 : S8) (b : ByteArray) (hb : b.size = 64) (w : World) (hr : RoundsIn w) :
    Calls Tryz.prog 86 #[.agg (h0Cells s8), .string b] w fun e w' => e = .returned (.agg (h0Cells (blockW b.data.toList 0 s8))) ∧ Below w.heap.size w w' := by
  obtain ⟨hz, hi⟩ := zero_of_info Tryz.zero64
  rw [← wC_zero b.data.toList 0] at hz
  have hsz0 := wC_size b.data.toList 0 0 (by omega)
  have hsz := wC_size b.data.toList 0 64 (Nat.le_refl _)
  have HZ := Lib.hid hz; have HI := Lib.hid hi; have HB := Lib.hid hb; have HR := Lib.hid hr; have HS0 := Lib.hid hsz0; have HS := Lib.hid hsz; clear hz hi hb hr hsz0 hsz
  have hone := all_oneCell_toArray (wC_one b.data.toList 0 64)
  have HONE : Hid ((wC b.data.toList 0 64).all (·.oneCell') = true) := Lib.hid (by simpa using hone)
  clear hone
  unfold h0Cells
  go_enter Tryz.func86, Tryz.ntmps86
  go_wp2_with fail
  refine (spread_any _ HB.out _).mono ?_
  rintro e W1 ⟨rfl, hb1⟩
  have HB1 := Lib.hid hb1; clear hb1
  go_wp2_with (first
    | (with_reducible refine wpList_alloc_var 152 (.agg (wC b.data.toList 0 0)) HZ.out ?_)
    | (refine wpList_store_new rfl 152 (.tmp 5) (.tmp 21) (wC b.data.toList 0 0) (wC b.data.toList 0 64) rfl rfl rfl (HI.out.trans (by rw [HS.out])) (by rw [HS.out, HS0.out]) HONE.out ?_))
  have hX : Below w.heap.size w (W1.alloc (.cells (wC b.data.toList 0 64) 152)) := by
    have h2 := (((Below.refl w.heap.size w).alloc (Nat.le_refl _) (.cells (h0Cells s8) 137)).alloc (by simp) (.cells #[.int .u32 0, .int .u32 0, .int .u32 0, .int .u32 0, .int .u32 0, .int .u32 0, .int .u32 0, .int .u32 0] 137))
    have h3 := h2.trans (HB1.out.mono (by simp; omega))
    exact h3.alloc h3.size _
  have hbox : (W1.alloc (.cells (wC b.data.toList 0 64) 152)).heap[w.heap.size]? = some (.cells (h0Cells s8) 137) := by
    have h1 : ((w.alloc (.cells (h0Cells s8) 137)).alloc (.cells #[.int .u32 0, .int .u32 0, .int .u32 0, .int .u32 0, .int .u32 0, .int .u32 0, .int .u32 0, .int .u32 0] 137)).heap[w.heap.size]? = some (.cells (h0Cells s8) 137) :=
      (Below.heap_alloc _ _ _ (by simp)).trans (heap_alloc_last w _)
    have h2 := HB1.out.block w.heap.size (by simp; omega)
    have h3 : w.heap.size < W1.heap.size := by have := HB1.out.size; simp at this; omega
    exact (Below.heap_alloc _ _ _ h3).trans (h2.trans h1)
  have hout : (W1.alloc (.cells (wC b.data.toList 0 64) 152)).heap[w.heap.size + 1]? = some (.cells #[.int .u32 0, .int .u32 0, .int .u32 0, .int .u32 0, .int .u32 0, .int .u32 0, .int .u32 0, .int .u32 0] 137) := by
    have h1 := heap_alloc_last (w.alloc (.cells (h0Cells s8) 137)) (.cells #[.int .u32 0, .int .u32 0, .int .u32 0, .int .u32 0, .int .u32 0, .int .u32 0, .int .u32 0, .int .u32 0] 137)
    simp only [size_alloc_lit] at h1
    have h2 := HB1.out.block (w.heap.size + 1) (by simp)
    have h3 : w.heap.size + 1 < W1.heap.size := by have := HB1.out.size; simp at this; omega
    exact (Below.heap_alloc _ _ _ h3).trans (h2.trans h1)
  have hwd : ∀ i, i < 64 → (W1.alloc (.cells (wC b.data.toList 0 64) 152)).cell? ⟨W1.heap.size, i, none⟩ = some (.int .u32 ((schedW b.data.toList 0 i).toNat : Int)) := fun i hi => arr_at W1 _ _ i _ (wC_at b.data.toList 0 64 i hi)
  have hrd : RoundsIn (W1.alloc (.cells (wC b.data.toList 0 64) 152)) := HR.out.below hX
  generalize W1.alloc (.cells (wC b.data.toList 0 64) 152) = X at *
  generalize W1.heap.size = bw at *
  simp only [Act.put, List.setIfInBounds_toArray, List.set_cons_succ, List.set_cons_zero]
  have c0 : X.cell? ⟨w.heap.size, 0, none⟩ = some (.int .u32 (s8.a.toNat : Int)) := cell_of_heap hbox 0
  have c1 : X.cell? ⟨w.heap.size, 1, none⟩ = some (.int .u32 (s8.b.toNat : Int)) := cell_of_heap hbox 1
  have c2 : X.cell? ⟨w.heap.size, 2, none⟩ = some (.int .u32 (s8.c.toNat : Int)) := cell_of_heap hbox 2
  have c3 : X.cell? ⟨w.heap.size, 3, none⟩ = some (.int .u32 (s8.d.toNat : Int)) := cell_of_heap hbox 3
  have c4 : X.cell? ⟨w.heap.size, 4, none⟩ = some (.int .u32 (s8.e.toNat : Int)) := cell_of_heap hbox 4
  have c5 : X.cell? ⟨w.heap.size, 5, none⟩ = some (.int .u32 (s8.f.toNat : Int)) := cell_of_heap hbox 5
  have c6 : X.cell? ⟨w.heap.size, 6, none⟩ = some (.int .u32 (s8.g.toNat : Int)) := cell_of_heap hbox 6
  have c7 : X.cell? ⟨w.heap.size, 7, none⟩ = some (.int .u32 (s8.h.toNat : Int)) := cell_of_heap hbox 7
  have HX := Lib.hid hX; have HOUT := Lib.hid hout; have HWD := Lib.hid hwd; have HRD := Lib.hid hrd
  have HBOX := Lib.hid hbox
  clear hX hout hwd hrd hbox HB1
  go_quiet (fail)
  generalize wC b.data.toList 0 64 = CW
  have hrd2 : (X.drewN nq).rangeAt 1 0 kCells.toList := HRD.out.1
  have hlk : kCells.toList.length = 64 := by rw [Array.length_toList]; exact kCells_size
  have hkat := kCells_at
  generalize kCells = KA at *
  have HKA := Lib.hid hkat; have HRD2 := Lib.hid hrd2; have HLK := Lib.hid hlk
  clear hkat hrd2 hlk c0 c1 c2 c3 c4 c5 c6 c7
  go_wp2_with (with_reducible refine wpList_load_mid rfl 152 (.global 1) rfl 1 0 rfl KA.toList _ HRD2.out Tryz.underlying152 rfl (HI.out.trans (by rw [HLK.out])) ?_)
  go_loopw [6, 7, 8, 9, 10, 11, 12, 13, 39] (fun a0 a1 a2 a3 a4 a5 a6 a7 i W => ∃ k q : Nat, k ≤ 64 ∧ i = .int .i64 (k : Int) ∧ W = X.drewN q ∧ a0 = .int .u32 ((roundsW b.data.toList 0 s8 k).a.toNat : Int) ∧ a1 = .int .u32 ((roundsW b.data.toList 0 s8 k).b.toNat : Int) ∧ a2 = .int .u32 ((roundsW b.data.toList 0 s8 k).c.toNat : Int) ∧ a3 = .int .u32 ((roundsW b.data.toList 0 s8 k).d.toNat : Int) ∧
    a4 = .int .u32 ((roundsW b.data.toList 0 s8 k).e.toNat : Int) ∧ a5 = .int .u32 ((roundsW b.data.toList 0 s8 k).f.toNat : Int) ∧ a6 = .int .u32 ((roundsW b.data.toList 0 s8 k).g.toNat : Int) ∧ a7 = .int .u32 ((roundsW b.data.toList 0 s8 k).h.toNat : Int)) (fun _ _ _ _ _ _ _ _ i _ => 64 - (intOf i).toNat)
  case atStart => exact ⟨0, _, by omega, rfl, rfl, rfl, rfl, rfl, rfl, rfl, rfl, rfl, rfl⟩
  case round =>
    obtain ⟨k, q, hk, rfl, rfl, rfl, rfl, rfl, rfl, rfl, rfl, rfl, rfl⟩ := hrel
    by_cases hk64 : k < 64
    · have hd64 : decide ((k : Int) < 64) = true := by simp; omega
      have bk : (k : Int) < 64 := by omega
      have hnx : roundsW b.data.toList 0 s8 (k + 1) = roundW (roundsW b.data.toList 0 s8 k) (kAt k) (schedW b.data.toList 0 k) := rfl
      have hka := HKA.out k hk64
      have dW : (X.drewN q).cell? ⟨bw, k, none⟩ = some (.int .u32 ((schedW b.data.toList 0 k).toNat : Int)) := HWD.out k hk64
      have hix : ∀ W, (Instr.index 152 (.agg KA) (.int .i64 (k : Int))).run Tryz.prog W = .ok (.int .u32 ((kAt k).toNat : Int)) W := fun W => run_index_u32 W _ _ KA k _ Tryz.underlying152 hk64 hka
      clear hka
      generalize kAt k = kk at *
      generalize schedW b.data.toList 0 k = ww at *
      generalize roundsW b.data.toList 0 s8 k = r at *
      obtain ⟨ra, rb, rc, rd, re, rf, rg, rh⟩ := r
      have HIX := Lib.hid hix; clear hix
      have HNX := Lib.hid hnx; clear hnx
      have ht1 := t1h_int ra rb rc rd re rf rg rh kk ww
      have ht2 := t2h_int ra rb rc rd re rf rg rh
      have hv1 := w_add (t1W ⟨ra, rb, rc, rd, re, rf, rg, rh⟩ kk ww) (t2W ⟨ra, rb, rc, rd, re, rf, rg, rh⟩)
      have hv2 := w_add rd (t1W ⟨ra, rb, rc, rd, re, rf, rg, rh⟩ kk ww)
      have HNX2 : Hid (roundsW b.data.toList 0 s8 (k + 1) = ⟨addW (t1W ⟨ra, rb, rc, rd, re, rf, rg, rh⟩ kk ww) (t2W ⟨ra, rb, rc, rd, re, rf, rg, rh⟩), ra, rb, rc, addW rd (t1W ⟨ra, rb, rc, rd, re, rf, rg, rh⟩ kk ww), re, rf, rg⟩) := Lib.hid HNX.out
      generalize t1W ⟨ra, rb, rc, rd, re, rf, rg, rh⟩ kk ww = xx at *
      generalize t2W ⟨ra, rb, rc, rd, re, rf, rg, rh⟩ = yy at *
      have HT1 := Lib.hid ht1; have HT2 := Lib.hid ht2; have HV1 := Lib.hid hv1; have HV2 := Lib.hid hv2
      clear ht1 ht2 hv1 hv2 HNX
      generalize hW : X.drewN q = W at *
      have HW := Lib.hid hW; clear hW
      dsimp only
      go_wp2
      rw [HIX.out]
      simp only [Result.andThen_ok]
      rw [Oper.upon_value]
      repeat go_step
      have hif : (if IntKind.u32.signed = true then (-1 : Int) else IntKind.u32.max) = IntKind.u32.max := rfl
      rw [hif]
      clear hif
      refine wp_region_quiet_lit (by kernel_rfl) (by kernel_rfl) ?_
      repeat (go_big_quiet_step ((go_at_call 100; exact Calls.quiet_of_same (turned_q _ _ _ _ (by decide) (by decide) (by decide) (by decide) (by decide) (by decide) _))))
      refine wpQuiet_nil ?_
      intro _ hw
      obtain ⟨nq2, rfl⟩ := hw
      rw [HT1.out]
      generalize bits .xor .u32 (bits .and .u32 (re.toNat : Int) (rf.toNat : Int)) (bits .and .u32 (bits .xor .u32 IntKind.u32.max (re.toNat : Int)) (rg.toNat : Int)) = ch
      go_wp2_with (go_at_call 100; refine (turned_q _ _ _ _ (by decide) (by decide) (by decide) (by decide) (by decide) (by decide) _).mono ?_; rintro e w' ⟨rfl, rfl⟩)
      have HWN := World.drewN_drewN (w := X) (n := q) (m := nq2)
      rw [HW.out] at HWN
      refine ⟨⟨k + 1, q + nq2, by omega, by go_num, HWN, ?_, ?_, ?_, ?_, ?_, ?_, ?_, ?_⟩, by simp [intOf]; omega⟩
      · rw [HT2.out, HV1.out, HNX2.out]
      · rw [HNX2.out]
      · rw [HNX2.out]
      · rw [HNX2.out]
      · rw [HV2.out, HNX2.out]
      · rw [HNX2.out]
      · rw [HNX2.out]
      · rw [HNX2.out]
    · obtain rfl : k = 64 := by omega
      have hgoal : blockW b.data.toList 0 s8 = addS s8 (roundsW b.data.toList 0 s8 64) := rfl
      generalize roundsW b.data.toList 0 s8 64 = r at *
      have HG := Lib.hid hgoal; clear hgoal
      have hbox := HBOX.out
      have c0 : (X.drewN q).cell? ⟨w.heap.size, 0, none⟩ = some (.int .u32 (s8.a.toNat : Int)) := cell_of_heap hbox 0
      have c1 : (X.drewN q).cell? ⟨w.heap.size, 1, none⟩ = some (.int .u32 (s8.b.toNat : Int)) := cell_of_heap hbox 1
      have c2 : (X.drewN q).cell? ⟨w.heap.size, 2, none⟩ = some (.int .u32 (s8.c.toNat : Int)) := cell_of_heap hbox 2
      have c3 : (X.drewN q).cell? ⟨w.heap.size, 3, none⟩ = some (.int .u32 (s8.d.toNat : Int)) := cell_of_heap hbox 3
      have c4 : (X.drewN q).cell? ⟨w.heap.size, 4, none⟩ = some (.int .u32 (s8.e.toNat : Int)) := cell_of_heap hbox 4
      have c5 : (X.drewN q).cell? ⟨w.heap.size, 5, none⟩ = some (.int .u32 (s8.f.toNat : Int)) := cell_of_heap hbox 5
      have c6 : (X.drewN q).cell? ⟨w.heap.size, 6, none⟩ = some (.int .u32 (s8.g.toNat : Int)) := cell_of_heap hbox 6
      have c7 : (X.drewN q).cell? ⟨w.heap.size, 7, none⟩ = some (.int .u32 (s8.h.toNat : Int)) := cell_of_heap hbox 7
      have hth : (X.drewN q).there (w.heap.size + 1) 0 8 := fun j hj => by
        have hb : (X.drewN q).heap[w.heap.size + 1]? = some (.cells #[.int .u32 0, .int .u32 0, .int .u32 0, .int .u32 0, .int .u32 0, .int .u32 0, .int .u32 0, .int .u32 0] 137) := HOUT.out
        rw [Nat.zero_add]
        refine ⟨?_, frozen_of_heap hb⟩
        rw [cell_of_heap hb, Array.getElem?_eq_getElem (by simpa using hj)]; rfl
      have hbl : Below w.heap.size w (X.drewN q) := belowDrewN HX.out q
      generalize X.drewN q = W at *
      have HTH := Lib.hid hth
      clear hth hbox
      rw [show ((64 : Nat) : Int) = 64 from rfl]
      have HIE := Lib.hid info_eight
      iterate 117 go_step
      refine wpList_store_mid (P := Tryz.prog) rfl 137 (.tmp 4) (.tmp 123) rfl (w.heap.size + 1) 0 (i8Cells (((s8.a.toNat : Int) + (r.a.toNat : Int)) % 4294967296) (((s8.b.toNat : Int) + (r.b.toNat : Int)) % 4294967296) (((s8.c.toNat : Int) + (r.c.toNat : Int)) % 4294967296) (((s8.d.toNat : Int) + (r.d.toNat : Int)) % 4294967296) (((s8.e.toNat : Int) + (r.e.toNat : Int)) % 4294967296) (((s8.f.toNat : Int) + (r.f.toNat : Int)) % 4294967296) (((s8.g.toNat : Int) + (r.g.toNat : Int)) % 4294967296) (((s8.h.toNat : Int) + (r.h.toNat : Int)) % 4294967296)) rfl rfl (by rw [i8_size]; exact HTH.out) (HIE.out.trans (by rw [i8_size])) (i8_one _ _ _ _ _ _ _ _) ?_
      rw [i8_words]
      repeat go_step

      refine bodyPost_ret (results_cell (t := 4) (ty := 137) rfl _ _ (w.heap.size + 1) (h0Cells (addS s8 r)).toList _ rfl ?_ Tryz.underlying137 rfl HIE.out) rfl ⟨?_, ?_⟩
      · exact World.rangeAt_setCells_same _ _ _ _ HTH.out
      · rw [HG.out]; rfl
      · exact below_setCells hbl (by omega) _ _
end Go.Proofs.YtkbjpgfdmkmbmaaGreatDoor
namespace Go.Proofs.YtkbjpgfdmkmbmaaGreatDoor
open Go.ChangeShapes Go.WideShapes Go.ChangeAt Go.RowKit

/-- what the rows list -/
def listed : List (String × DataW Unit) := [("math/bits.deBruijn32tab", Rows.laid_math_bits_deBruijn32tab), ("math/bits.deBruijn64tab", Rows.laid_math_bits_deBruijn64tab), ("exequatur/hash.rounds", Rows.laid_exequatur_hash_rounds), ("internal/strconv.uint64pow10", Rows.laid_internal_strconv_uint64pow10)]
theorem laidMet_drop {P : Program} : ∀ (k : Nat) (l : List (String × DataW Unit)) {w : World}, laidMet P l w → laidMet P (l.drop k) w
  | 0, _, _, h => h
  | _ + 1, [], _, h => h
  | k + 1, x :: r, _, h => laidMet_drop k r h.tail
def kInts : List Int := kL.map fun x => (x.toNat : Int)
theorem listed_eq : listed.drop 2 = ("exequatur/hash.rounds", Lib.tabData .u32 kInts) :: listed.drop (2 + 1) := by kernel_rfl
theorem listed_plain : (listed.all fun x => x.2.handleName?.isNone) = true := by kernel_rfl
theorem gRounds : Tryz.prog.globalNamed "exequatur/hash.rounds" = some 1 := by kernel_rfl
theorem tRounds : (Tryz.prog.globals[1]?).map (·.type) = some 152 := by kernel_rfl
theorem cellsWord : Tryz.prog.cellsOf 94 = 1 := by kernel_rfl
theorem cellsRounds : Tryz.prog.cellsOf 152 = 64 := by kernel_rfl
theorem kInts_len : kInts.length = 64 := by kernel_rfl
theorem roundsIn_of_laid {W : World} (h : laidMetH Tryz.prog listed W) : RoundsIn W := by
  rw [MakeChecks.laidMetH_plain _ _ _ listed_plain] at h
  have h := laidMet_drop 2 _ h
  rw [listed_eq] at h
  have hT := Lib.tabIs_of_head gRounds tRounds Tryz.underlying152 Tryz.underlying94 cellsWord cellsRounds h
  have hc := fun i (hi : i < 64) => hT.cell gRounds i (by rw [kInts_len]; exact hi)
  refine ⟨fun j v hv => ?_, ?_⟩
  · rw [Nat.zero_add]
    have hj : j < 64 := by
      have := (List.getElem?_eq_some_iff.1 hv).1
      rw [Array.length_toList, kCells_size] at this; exact this
    rw [hc j hj, ← hv]
    have h1 := kCells_at j hj
    rw [← Array.getElem?_toList] at h1
    rw [h1]
    have hl : j < kL.length := hj
    simp [kInts, kAt, List.getD, hl]
  · have h0 := hc 0 (by decide)
    refine Nat.lt_of_not_le fun hle => ?_
    have : W.cell? ⟨1, 0, none⟩ = none := by
      simp [World.cell?, Array.getElem?_eq_none hle]
    rw [this] at h0; cases h0
theorem door_met (os : Os) (args : Array Value) : laidMetH Tryz.prog listed ((World.doorLaid Tryz.prog 400 os).forCall (fun _ _ => 0) ⟨#[], args, []⟩).memory :=
  laidMetH_of_parts3 (fuel := 8) (laidMet_of_run' 8 (by kernel_rfl) (by kernel_rfl)) (by kernel_rfl) (by kernel_rfl)
end Go.Proofs.YtkbjpgfdmkmbmaaGreatDoor
namespace Go.Proofs.YtkbjpgfdmkmbmaaGreatDoor
open Go.RowKit
set_option linter.unusedVariables false
set_option linter.unusedSimpArgs false

/-- what the code's frames do -/
structure CodeFrame : Prop where
  frame : ∀ (w : World) (A : Option Addr) (c : Nat) (l : List UInt8), l.length ≤ 100000 → RoundsIn w → RdW w (.slice A l.length c) l → Calls Tryz.prog 50 #[.slice A l.length c] w fun e w' =>
    (∃ v, e = .returned v ∧ RdAt w' v (frameL l) ∧ ∀ g, v.ownBlock = some g → w.heap.size ≤ g) ∧ Below w.heap.size w w'
  split : ∀ (w : World) (A : Option Addr) (c : Nat) (b : List UInt8), b.length ≤ 100000 → RoundsIn w → RdW w (.slice A b.length c) b → Calls Tryz.prog 26 #[.slice A b.length c] w fun e w' =>
    (∃ v, e = .returned (.tuple #[v, .int .i64 ((splitL b).2 : Nat)]) ∧ RdB w' v (splitL b).1) ∧ Below w.heap.size w w'
theorem take_eq_more {α : Type} {a b : List α} {k : Nat} (h : a.take k = b.take k) (ha : k < a.length) (hb : k < b.length) (he : a[k] = b[k]) : a.take (k + 1) = b.take (k + 1) := by
  rw [List.take_succ_eq_append_getElem ha, List.take_succ_eq_append_getElem hb, h, he]
end Go.Proofs.YtkbjpgfdmkmbmaaGreatDoor
namespace Go.Proofs.YtkbjpgfdmkmbmaaGreatDoor
open Go.RowKit

theorem Tryz.zero32 : (Tryz.prog.info? 156).map (fun i => (i.zero, i.size)) = some (some (.agg (Array.replicate 32 (.int .u8 0))), 32) := by kernel_rfl
/-- an array of bytes, so far -/
def bC (n : Nat) (l : List UInt8) : Array Value := (cells l).toArray ++ Array.replicate (n - l.length) (.int .u8 0)
theorem bC_zero (n : Nat) : bC n [] = Array.replicate n (.int .u8 0) := by simp [bC, cells]
theorem bC_size (n : Nat) (l : List UInt8) (h : l.length ≤ n) : (bC n l).size = n := by simp [bC, cells]; omega
theorem bC_at (n : Nat) (l : List UInt8) (j : Nat) (h : j < l.length) : (bC n l)[j]? = some (.int .u8 (l[j].toNat : Int)) := by
  unfold bC cells
  rw [Array.getElem?_append_left (by simpa using h)]
  simp [h]
theorem bC_here (n : Nat) (l : List UInt8) (h : l.length < n) : (bC n l)[l.length]? = some (.int .u8 0) := by
  unfold bC cells
  rw [Array.getElem?_append_right (by simp), Array.getElem?_replicate, if_pos (by simp; omega)]
theorem bC_next (n : Nat) (l : List UInt8) (c : UInt8) (h : l.length < n) : (bC n l).setIfInBounds l.length (.int .u8 (c.toNat : Int)) = bC n (l ++ [c]) := by
  apply Array.ext_getElem?
  intro j
  rw [Array.getElem?_setIfInBounds, bC_size n l (by omega)]
  by_cases hj : l.length = j
  · subst hj
    rw [if_pos rfl, if_pos h, bC_at n (l ++ [c]) l.length (by simp)]
    simp
  · rw [if_neg hj]
    by_cases hjk : j < l.length
    · rw [bC_at n l j hjk, bC_at n (l ++ [c]) j (by simp; omega)]
      simp [List.getElem_append_left hjk]
    · unfold bC cells
      rw [Array.getElem?_append_right (by simp; omega), Array.getElem?_append_right (by simp; omega)]
      simp only [Array.getElem?_replicate, List.size_toArray, List.length_map, List.length_append, List.length_cons, List.length_nil]
      by_cases h64 : j < n
      · rw [if_pos (by omega), if_pos (by omega)]
      · rw [if_neg (by omega), if_neg (by omega)]
theorem byte4_at (x : UInt32) (j : Nat) (hj : j < 4) : (((byte4 x).getD j 0).toNat : Int) = (x.toNat : Int) / 2 ^ (24 - 8 * j) % 256 := by
  have hx := x.toNat_lt
  have e : ∀ n : Nat, ((UInt8.ofNat n).toNat : Int) = (n : Int) % 256 := fun n => by rw [UInt8.toNat_ofNat']; omega
  match j, hj with
  | 0, _ => exact (e _).trans (by simp)
  | 1, _ => exact (e _).trans (by simp)
  | 2, _ => exact (e _).trans (by simp)
  | 3, _ => exact (e _).trans (by simp)
theorem conv_arr (w : World) (l : List UInt8) (cs : Array Value) (e : TypeId) (n c : Nat) (hn : n = l.length) (h : cs.toList = cells l) :
    (convert 60 9 (.slice (some ⟨w.heap.size, 0, none⟩) n c)).run Tryz.prog (w.alloc (.cells cs e)) = .ok (.string ⟨l.toArray⟩) (w.alloc (.cells cs e)) := by
  subst hn
  refine run_convert_bytes_back (P := Tryz.prog) _ 60 9 5 ⟨w.heap.size, 0, none⟩ c l Tryz.underlying60 Tryz.underlying5 Tryz.underlying9 (fun j hj => ?_)
  exact new_cells w cs e j _ (by rw [h]; simp [cells, hj])
set_option maxRecDepth 100000 in
set_option maxHeartbeats 1000000 in
theorem printed_any (s : S8) (w : World) :
    Calls Tryz.prog 88 #[.agg (h0Cells s)] w fun e w' => e = .returned (.string ⟨(outL s).toArray⟩) ∧ Below w.heap.size w w' := by
  obtain ⟨hz, hi⟩ := zero_of_info Tryz.zero32
  rw [← bC_zero 32] at hz
  have HZ := Lib.hid hz; have HI := Lib.hid hi; clear hz hi
  unfold h0Cells
  go_enter Tryz.func88, Tryz.ntmps88
  go_wp2_with (with_reducible refine wpList_alloc_var 156 (.agg (bC 32 [])) HZ.out ?_)
  have he : (#[.int .u32 (s.a.toNat : Int), .int .u32 (s.b.toNat : Int), .int .u32 (s.c.toNat : Int), .int .u32 (s.d.toNat : Int), .int .u32 (s.e.toNat : Int), .int .u32 (s.f.toNat : Int), .int .u32 (s.g.toNat : Int), .int .u32 (s.h.toNat : Int)] : Array Value) = eightC s.get := rfl
  rw [he]
  clear he
  have hat := eightC_at s.get
  generalize eightC s.get = E8 at *
  have hXb : Below w.heap.size w (w.alloc (.cells E8 137)) := (Below.refl _ _).alloc (Nat.le_refl _) _
  have hXs : w.heap.size + 1 = (w.alloc (.cells E8 137)).heap.size := by simp
  rw [hXs]
  generalize w.alloc (.cells E8 137) = X at *
  have HAT := Lib.hid hat; clear hat hXs
  go_loopw [8] (fun i W => ∃ k : Nat, k ≤ 8 ∧ i = .int .i64 (k : Int) ∧ W = X.alloc (.cells (bC 32 (outN s k)) 156)) (fun i _ => 8 - (intOf i).toNat)
  case atStart => exact ⟨0, by omega, rfl, rfl⟩
  case round =>
    obtain ⟨k, hk, rfl, rfl⟩ := hrel
    by_cases hlt : k < 8
    · have hd : decide ((k : Int) < 8) = true := by simp; omega
      have hix := run_index_u32 (X.alloc (.cells (bC 32 (outN s k)) 156)) 137 8 E8 k _ Tryz.underlying137 hlt (HAT.out k hlt)
      have hl := outN_len s k
      have hn : outN s (k + 1) = outN s k ++ byte4 (s.get k) := rfl
      generalize s.get k = x at *
      generalize outN s k = O at *
      have HIX := Lib.hid hix; have HL := Lib.hid hl; have HN := Lib.hid hn; clear hix hl hn
      go_wp2
      rw [HIX.out]
      simp only [Result.andThen_ok]
      rw [Oper.upon_value]
      go_wp2
      go_loopw [12] (fun i W => ∃ j : Nat, j ≤ 4 ∧ i = .int .i64 (j : Int) ∧ W = X.alloc (.cells (bC 32 (O ++ (byte4 x).take j)) 156)) (fun i _ => 4 - (intOf i).toNat)
      case atStart => exact ⟨0, by omega, rfl, by simp⟩
      case round =>
        obtain ⟨j, hj, rfl, rfl⟩ := hrel
        by_cases hj4 : j < 4
        · have hlen : (O ++ (byte4 x).take j).length = 4 * k + j := by
            have h4 : (byte4 x).length = 4 := rfl
            rw [List.length_append, HL.out, List.length_take, h4]; omega
          have hhere := arr_at X (bC 32 (O ++ (byte4 x).take j)) 156 _ _ (bC_here 32 (O ++ (byte4 x).take j) (by omega))
          have hnx := bC_next 32 (O ++ (byte4 x).take j) ((byte4 x).getD j 0) (by omega)
          have htk : O ++ (byte4 x).take j ++ [(byte4 x).getD j 0] = O ++ (byte4 x).take (j + 1) := by
            have h4 : j < (byte4 x).length := hj4
            rw [List.take_succ_eq_append_getElem h4, List.append_assoc]
            simp [List.getD, h4]
          rw [htk] at hnx
          rw [hlen] at hnx hhere
          have hi : (4 * (k : Int) + (j : Int)) < 32 := by omega
          generalize hC : bC 32 (O ++ (byte4 x).take j) = C at *
          have HNX := Lib.hid hnx; have HLEN := Lib.hid hlen; have HTK := Lib.hid htk; have HC := Lib.hid hC; clear hnx hlen htk hC
          go_wp2
          rw [byte4_at x j hj4] at HNX
          exact ⟨⟨j + 1, by omega, by go_num, by rw [HNX.out]⟩, by simp [intOf]; omega⟩
        · obtain rfl : j = 4 := by omega
          have h4 : (byte4 x).take 4 = byte4 x := rfl
          rw [h4, show ((4 : Nat) : Int) = 4 from rfl]
          go_wp2
          exact ⟨⟨k + 1, by omega, by go_num, by rw [HN.out]⟩, by simp [intOf]; omega⟩
    · obtain rfl : k = 8 := by omega
      rw [outN_all, show ((8 : Nat) : Int) = 8 from rfl]
      have hc8 : bC 32 (outL s) = (cells (outL s)).toArray := by
        unfold bC; rw [outL_len]; simp
      have hcv := fun n c hn => conv_arr X (outL s) (cells (outL s)).toArray 156 n c hn rfl
      have hcv32 := hcv 32 32 (outL_len s)
      rw [hc8]
      have hbl : Below w.heap.size w (X.alloc (.cells (cells (outL s)).toArray 156)) := hXb.alloc hXb.size _
      generalize (cells (outL s)).toArray = C at *
      clear hcv hc8
      go_wp2
      go_ret
      exact ⟨rfl, hbl⟩
end Go.Proofs.YtkbjpgfdmkmbmaaGreatDoor
namespace Go.Proofs.YtkbjpgfdmkmbmaaGreatDoor
open Go.RowKit

theorem Tryz.zero128 : (Tryz.prog.info? 155).map (fun i => (i.zero, i.size)) = some (some (.agg (Array.replicate 128 (.int .u8 0))), 128) := by kernel_rfl
theorem info_u8 : (Tryz.prog.info? 5).map (·.size) = some 1 := by kernel_rfl
/-- a text copied into an array of noughts -/
theorem copy_arr (X : World) (N : Nat) (s : ByteArray) (hs : s.size ≤ N) (t ty : TypeId) :
    (Builtin.copy_ #[60, 9] ty #[.slice (some ⟨X.heap.size, 0, none⟩) N N, .string s]).run Tryz.prog (X.alloc (.cells (bC N []) t)) = .ok (goInt s.size) (X.alloc (.cells (bC N s.data.toList) t)) := by
  have h := Lib.run_copy_row_string (P := Tryz.prog) (X.alloc (.cells (bC N []) t)) 60 9 ty 5 X.heap.size 0 N N s (bC N []) t Tryz.underlying60 info_u8 (heap_alloc_last X _) hs (by rw [bC_size N [] (by simp)]; omega)
  rw [h, World.setRow_alloc_new]
  have e : (List.take 0 (bC N []).toList ++ Lib.byteCells s.data.toList ++ List.drop (0 + s.size) (bC N []).toList).toArray = bC N s.data.toList := by
    have hl : s.data.toList.length = s.size := rfl
    rw [bC_zero]
    unfold bC
    apply Array.ext'
    simp [Lib.byteCells, cells]
  rw [e]
theorem bC_set (n : Nat) (l : List UInt8) (j : Nat) (c : UInt8) (hj : j < l.length) : (bC n l).setIfInBounds j (.int .u8 (c.toNat : Int)) = bC n (l.set j c) := by
  unfold bC cells
  apply Array.ext'
  simp [hj, List.map_set]
theorem bC_zeros (n : Nat) (l : List UInt8) (k : Nat) (h : l.length + k ≤ n) : bC n (l ++ List.replicate k 0) = bC n l := by
  unfold bC cells
  apply Array.ext'
  simp only [Array.toList_append, Array.toList_replicate, List.map_append, List.map_replicate, List.length_append, List.length_replicate, List.append_assoc]
  rw [show (Value.int .u8 ((0 : UInt8).toNat : Int)) = Value.int .u8 0 from rfl, List.replicate_append_replicate, show k + (n - (l.length + k)) = n - l.length by omega]
theorem conv_part (w : World) (l : List UInt8) (N : Nat) (e : TypeId) (n : Nat) (hn : n = l.length) :
    (convert 60 9 (.slice (some ⟨w.heap.size, 0, none⟩) n N)).run Tryz.prog (w.alloc (.cells (bC N l) e)) = .ok (.string ⟨l.toArray⟩) (w.alloc (.cells (bC N l) e)) := by
  subst hn
  refine run_convert_bytes_back (P := Tryz.prog) _ 60 9 5 ⟨w.heap.size, 0, none⟩ N l Tryz.underlying60 Tryz.underlying5 Tryz.underlying9 (fun j hj => ?_)
  have e1 : (⟨w.heap.size, 0, none⟩ : Addr).add j = ⟨w.heap.size, j, none⟩ := by rw [Addr.add_mid, Nat.zero_add]
  rw [e1]
  exact arr_at w (bC N l) e j _ (bC_at N l j hj)
/-- the last block, or the last two -/
def endL (r : List UInt8) (n : Nat) : List UInt8 := r ++ [128] ++ List.replicate (zerosN r.length) 0 ++ lenL n
theorem len_byte2 (n i : Nat) : (8 * (n : Int) / 2 ^ (8 * i) % 256) = ((UInt8.ofNat (8 * n / 256 ^ i)).toNat : Int) := by
  have e : (256 : Nat) ^ i = 2 ^ (8 * i) := by rw [Nat.pow_mul]
  rw [e, UInt8.toNat_ofNat']
  have h : (8 * (n : Int) / 2 ^ (8 * i)) = ((8 * n / 2 ^ (8 * i) : Nat) : Int) := by
    rw [Int.natCast_ediv, Int.natCast_mul, Int.natCast_pow]; rfl
  rw [h]; omega
theorem lenL_drop (n i : Nat) (h : i < 8) : (lenL n).drop (7 - i) = UInt8.ofNat (8 * n / 256 ^ i) :: (lenL n).drop (8 - i) := by
  have hl : 7 - i < (lenL n).length := by show 7 - i < 8; omega
  rw [List.drop_eq_getElem_cons hl, show 7 - i + 1 = 8 - i by omega]
  congr 1
  simp only [lenL, List.getElem_map, List.getElem_range]
  rw [show 7 - (7 - i) = i by omega]
/-- the array when i bytes of the length are there, the last ones -/
def endI (P : List UInt8) (n i : Nat) : List UInt8 := P ++ (List.replicate (8 - i) 0 ++ (lenL n).drop (8 - i))
theorem endI_len (P : List UInt8) (n i : Nat) (h : i ≤ 8) : (endI P n i).length = P.length + 8 := by
  have : (lenL n).length = 8 := rfl
  simp only [endI, List.length_append, List.length_replicate, List.length_drop, this]; omega
theorem endI_next (P : List UInt8) (n i : Nat) (h : i < 8) : (endI P n i).set (P.length + 7 - i) (UInt8.ofNat (8 * n / 256 ^ i)) = endI P n (i + 1) := by
  unfold endI
  rw [show 8 - (i + 1) = 7 - i by omega, lenL_drop n i h, show 8 - i = (7 - i) + 1 by omega, List.replicate_succ', List.set_append_right _ _ (by omega), show P.length + 7 - i - P.length = 7 - i by omega]
  congr 1
  rw [List.append_assoc, List.set_append_right _ _ (by simp)]
  simp
theorem endI_all (P : List UInt8) (n : Nat) : endI P n 8 = P ++ lenL n := by simp [endI]
theorem endI_none (P : List UInt8) (n : Nat) : endI P n 0 = P ++ List.replicate 8 0 := by
  have : (lenL n).length = 8 := rfl
  simp [endI, List.drop_of_length_le, this]
set_option maxRecDepth 100000 in
set_option maxHeartbeats 1000000 in
theorem ending_any (r : ByteArray) (n : Nat) (hr : r.size < 64) (hn : n ≤ 1099511627776) (w : World) :
    Calls Tryz.prog 87 #[.string r, .int .i64 (n : Int)] w fun e w' => e = .returned (.string ⟨(endL r.data.toList n).toArray⟩) ∧ Below w.heap.size w w' := by
  obtain ⟨hz, hi⟩ := zero_of_info Tryz.zero128
  rw [← bC_zero 128] at hz
  have HZ := Lib.hid hz; have HI := Lib.hid hi; clear hz hi
  have hl : r.data.toList.length = r.size := rfl
  have hcp := copy_arr w 128 r (by omega) 155
  have hhere := arr_at w (bC 128 r.data.toList) 155 _ _ (bC_here 128 r.data.toList (by omega))
  have hnx := bC_next 128 r.data.toList 128 (by omega)
  rw [hl] at hhere hnx
  have hbl : ∀ C, Below w.heap.size w (w.alloc (.cells C 155)) := fun C => (Below.refl _ _).alloc (Nat.le_refl _) _
  have HNX := Lib.hid hnx; have HL := Lib.hid hl; have HBL := Lib.hid hbl; clear hnx hl hbl
  go_enter Tryz.func87, Tryz.ntmps87
  go_wp2_with (with_reducible refine wpList_alloc_var 155 (.agg (bC 128 [])) HZ.out ?_)
  · have hzn : zerosN r.size = 119 - r.size := by unfold zerosN; omega
    have hPl : (r.data.toList ++ [128] ++ List.replicate (zerosN r.size) 0).length + 8 = 128 := by
      rw [hzn]; simp [HL.out]; omega
    have hst : (bC 128 r.data.toList).setIfInBounds r.size (.int .u8 128) = bC 128 (endI (r.data.toList ++ [128] ++ List.replicate (zerosN r.size) 0) n 0) := by
      rw [endI_none, bC_zeros _ _ 8 (by omega), bC_zeros _ _ _ (by rw [hzn]; simp [HL.out]; omega)]
      exact HNX.out
    rw [hst]
    have hend : endI (r.data.toList ++ [128] ++ List.replicate (zerosN r.size) 0) n 8 = endL r.data.toList n := by rw [endI_all]; rfl
    generalize r.data.toList ++ [128] ++ List.replicate (zerosN r.size) 0 = P at *
    have HEND := Lib.hid hend; clear hend hst hzn hcp hhere
    go_loopw [23] (fun i W => ∃ i0 : Nat, i0 ≤ 8 ∧ i = .int .i64 (i0 : Int) ∧ W = w.alloc (.cells (bC 128 (endI P n i0)) 155)) (fun i _ => 8 - (intOf i).toNat)
    case atStart => exact ⟨0, by omega, rfl, rfl⟩
    case round =>
      obtain ⟨i, hi8, rfl, rfl⟩ := hrel
      by_cases hlt : i < 8
      · have hd : decide ((i : Int) < 8) = true := by simp; omega
        have hil := endI_len P n i (by omega)
        have hx : (128 - 1 - i) < (endI P n i).length := by omega
        have hnx := bC_set 128 (endI P n i) (128 - 1 - i) (UInt8.ofNat (8 * n / 256 ^ i)) hx
        rw [show 128 - 1 - i = P.length + 7 - i by omega, endI_next P n i hlt, show P.length + 7 - i = 128 - 1 - i by omega] at hnx
        rw [← len_byte2] at hnx
        obtain ⟨m, hm⟩ : ∃ m, 128 - 1 - i = m := ⟨_, rfl⟩
        rw [hm] at hnx hx
        have e1 : IntKind.i64.wrap (128 - 1 - (i : Int)) = (m : Int) := by rw [IntKind.wrap_i64]; omega
        have e2 : (127 : Int) - (i : Int) = (m : Int) := by omega
        have e3 : IntKind.i64.wrap (127 - (i : Int)) = (m : Int) := by rw [IntKind.wrap_i64]; omega
        have bm : (m : Int) < 128 := by omega
        have hh := arr_at w (bC 128 (endI P n i)) 155 _ _ (bC_at 128 (endI P n i) m hx)
        generalize (endI P n i)[m].toNat = oo at *
        generalize bC 128 (endI P n i) = C at *
        have HNX2 := Lib.hid hnx; clear hnx hil hm
        go_wp2
        rw [Int.mul_comm (n : Int) 8, HNX2.out]
        exact ⟨⟨i + 1, by omega, by go_num, rfl⟩, by simp [intOf]; omega⟩
      · obtain rfl : i = 8 := by omega
        have hcv := conv_part w (endL r.data.toList n) 128 155 128 (by rw [← HEND.out, endI_len P n 8 (by omega)]; omega)
        have hb := HBL.out (bC 128 (endL r.data.toList n))
        rw [HEND.out, show ((8 : Nat) : Int) = 8 from rfl]
        generalize bC 128 (endL r.data.toList n) = C at *
        go_wp2
        go_ret
        exact ⟨rfl, hb⟩
  · have hzn : zerosN r.size = 55 - r.size := by unfold zerosN; omega
    have hPl : (r.data.toList ++ [128] ++ List.replicate (zerosN r.size) 0).length + 8 = 64 := by
      rw [hzn]; simp [HL.out]; omega
    have hst : (bC 128 r.data.toList).setIfInBounds r.size (.int .u8 128) = bC 128 (endI (r.data.toList ++ [128] ++ List.replicate (zerosN r.size) 0) n 0) := by
      rw [endI_none, bC_zeros _ _ 8 (by omega), bC_zeros _ _ _ (by rw [hzn]; simp [HL.out]; omega)]
      exact HNX.out
    rw [hst]
    have hend : endI (r.data.toList ++ [128] ++ List.replicate (zerosN r.size) 0) n 8 = endL r.data.toList n := by rw [endI_all]; rfl
    generalize r.data.toList ++ [128] ++ List.replicate (zerosN r.size) 0 = P at *
    have HEND := Lib.hid hend; clear hend hst hzn hcp hhere
    go_loopw [23] (fun i W => ∃ i0 : Nat, i0 ≤ 8 ∧ i = .int .i64 (i0 : Int) ∧ W = w.alloc (.cells (bC 128 (endI P n i0)) 155)) (fun i _ => 8 - (intOf i).toNat)
    case atStart => exact ⟨0, by omega, rfl, rfl⟩
    case round =>
      obtain ⟨i, hi8, rfl, rfl⟩ := hrel
      by_cases hlt : i < 8
      · have hd : decide ((i : Int) < 8) = true := by simp; omega
        have hil := endI_len P n i (by omega)
        have hx : (64 - 1 - i) < (endI P n i).length := by omega
        have hnx := bC_set 128 (endI P n i) (64 - 1 - i) (UInt8.ofNat (8 * n / 256 ^ i)) hx
        rw [show 64 - 1 - i = P.length + 7 - i by omega, endI_next P n i hlt, show P.length + 7 - i = 64 - 1 - i by omega] at hnx
        rw [← len_byte2] at hnx
        obtain ⟨m, hm⟩ : ∃ m, 64 - 1 - i = m := ⟨_, rfl⟩
        rw [hm] at hnx hx
        have e1 : IntKind.i64.wrap (64 - 1 - (i : Int)) = (m : Int) := by rw [IntKind.wrap_i64]; omega
        have e2 : (63 : Int) - (i : Int) = (m : Int) := by omega
        have e3 : IntKind.i64.wrap (63 - (i : Int)) = (m : Int) := by rw [IntKind.wrap_i64]; omega
        have bm : (m : Int) < 128 := by omega
        have hh := arr_at w (bC 128 (endI P n i)) 155 _ _ (bC_at 128 (endI P n i) m hx)
        generalize (endI P n i)[m].toNat = oo at *
        generalize bC 128 (endI P n i) = C at *
        have HNX2 := Lib.hid hnx; clear hnx hil hm
        go_wp2
        rw [Int.mul_comm (n : Int) 8, HNX2.out]
        exact ⟨⟨i + 1, by omega, by go_num, rfl⟩, by simp [intOf]; omega⟩
      · obtain rfl : i = 8 := by omega
        have hcv := conv_part w (endL r.data.toList n) 128 155 64 (by rw [← HEND.out, endI_len P n 8 (by omega)]; omega)
        have hb := HBL.out (bC 128 (endL r.data.toList n))
        rw [HEND.out, show ((8 : Nat) : Int) = 8 from rfl]
        generalize bC 128 (endL r.data.toList n) = C at *
        go_wp2
        go_ret
        exact ⟨rfl, hb⟩
end Go.Proofs.YtkbjpgfdmkmbmaaGreatDoor
namespace Go.Proofs.YtkbjpgfdmkmbmaaGreatDoor
open Go.RowKit

def keyL (k : List UInt8) : List UInt8 := if 64 < k.length then sumL k else k
def padK (k : List UInt8) : List UInt8 := keyL k ++ List.replicate (64 - (keyL k).length) 0
def xorL (c : UInt8) (l : List UInt8) : List UInt8 := l.map fun x => x ^^^ c
def macL (k b : List UInt8) : List UInt8 := sumL (xorL 92 (padK k) ++ sumL (xorL 54 (padK k) ++ b))
theorem sumL_len (l : List UInt8) : (sumL l).length = 32 := rfl
theorem keyL_len (k : List UInt8) : (keyL k).length ≤ 64 := by
  unfold keyL; split
  · rw [sumL_len]; omega
  · omega
theorem padK_len (k : List UInt8) : (padK k).length = 64 := by
  have := keyL_len k
  unfold padK; rw [List.length_append, List.length_replicate]; omega
theorem macL_len (k b : List UInt8) : (macL k b).length = 32 := rfl
theorem xor8 (x c : UInt8) : bits .xor .u8 (x.toNat : Int) (c.toNat : Int) = ((x ^^^ c).toNat : Int) := by
  rw [bits_xor_nat .u8 8 (by decide) (fun n h0 h1 => by rw [IntKind.wrap_u8]; omega) _ _ x.toNat_lt c.toNat_lt, UInt8.toNat_xor]
/-- the first i bytes turned -/
def xorI (c : UInt8) (l : List UInt8) (i : Nat) : List UInt8 := xorL c (l.take i) ++ l.drop i
theorem xorI_len (c : UInt8) (l : List UInt8) (i : Nat) : (xorI c l i).length = l.length := by simp [xorI, xorL]; omega
theorem xorI_zero (c : UInt8) (l : List UInt8) : xorI c l 0 = l := by simp [xorI, xorL]
theorem xorI_all (c : UInt8) (l : List UInt8) (n : Nat) (h : l.length = n) : xorI c l n = xorL c l := by subst h; simp [xorI, xorL]
theorem xorI_at (c : UInt8) (l : List UInt8) (i : Nat) (h : i < l.length) (h' : i < (xorI c l i).length) : (xorI c l i)[i] = l[i] := by
  have e : (xorI c l i)[i]? = some l[i] := by
    unfold xorI xorL
    rw [List.getElem?_append_right (by simp; omega)]
    simp [Nat.min_eq_left (Nat.le_of_lt h), h]
  rw [List.getElem?_eq_getElem h'] at e
  injection e
theorem xorI_next (c : UInt8) (l : List UInt8) (i : Nat) (h : i < l.length) : (xorI c l i).set i (l[i] ^^^ c) = xorI c l (i + 1) := by
  unfold xorI xorL
  rw [List.set_append_right _ _ (by simp; omega), List.take_succ_eq_append_getElem h, List.map_append, List.append_assoc]
  congr 1
  have e : i - (List.map (fun x => x ^^^ c) (List.take i l)).length = 0 := by simp; omega
  rw [e, List.drop_eq_getElem_cons h]; rfl

def setAll (C : Array Value) : Nat → List Value → Array Value
  | _, [] => C
  | o, v :: r => setAll (C.setIfInBounds o v) (o + 1) r
theorem setCells_heap {b : Nat} {t : TypeId} : ∀ (vs : List Value) (o : Nat) (w : World) (C : Array Value), w.heap[b]? = some (.cells C t) → (w.setCells b o vs).heap[b]? = some (.cells (setAll C o vs) t)
  | [], _, _, _, h => h
  | v :: r, o, w, C, h => setCells_heap r (o + 1) (w.setCell ⟨b, o, none⟩ v) (C.setIfInBounds o v) (heap_set_cell h v)
theorem setCells_far {b k : Nat} (hk : k ≠ b) : ∀ (vs : List Value) (o : Nat) (w : World), (w.setCells b o vs).heap[k]? = w.heap[k]?
  | [], _, _ => rfl
  | v :: r, o, w => (setCells_far hk r (o + 1) (w.setCell ⟨b, o, none⟩ v)).trans (Below.heap_setCell w _ v k (fun e => hk (by rw [e])))
theorem setAll_bytes (n : Nat) : ∀ (l a : List UInt8), a.length + l.length ≤ n → setAll (bC n a) a.length (cells l) = bC n (a ++ l)
  | [], a, _ => by simp [cells, setAll]
  | c :: l, a, h => by
    have h' : a.length + (l.length + 1) ≤ n := by simpa using h
    show setAll ((bC n a).setIfInBounds a.length (.int .u8 (c.toNat : Int))) (a.length + 1) (cells l) = _
    rw [bC_next n a c (by omega)]
    have e : a.length + 1 = (a ++ [c]).length := by simp
    rw [e, setAll_bytes n l (a ++ [c]) (by simp; omega), List.append_assoc]; rfl
/-- a text copied into an array of noughts that lies somewhere -/
theorem copy_heap (W : World) (b N : Nat) (s : ByteArray) (hs : s.size ≤ N) (t ty : TypeId) (h : W.heap[b]? = some (.cells (bC N []) t)) :
    (Builtin.copy_ #[60, 9] ty #[.slice (some ⟨b, 0, none⟩) N N, .string s]).run Tryz.prog W = .ok (goInt s.size) (W.setCells b 0 (cells s.data.toList)) ∧
    (W.setCells b 0 (cells s.data.toList)).heap[b]? = some (.cells (bC N s.data.toList) t) := by
  have hsz : ∀ w, (sizeOf 5).run Tryz.prog w = .ok 1 w := fun w => by
    cases hq : Tryz.prog.info? 5 with
    | none => have := info_u8; simp [hq] at this
    | some j =>
      have : j.size = 1 := by have := info_u8; simpa [hq] using this
      simp [sizeOf, typeInfo, hq, this]
  have hcell : ∀ j, j < s.size → (W.cell? ⟨b, 0 + j, none⟩).isSome = true := fun j hj => by
    rw [cell_of_heap h, Array.getElem?_eq_getElem (by rw [bC_size N [] (by simp)]; omega)]; rfl
  refine ⟨Go.run_copy_string (P := Tryz.prog) W 60 9 ty 5 b 0 N N s Tryz.underlying60 hsz hs hcell (fun j _ => frozen_of_heap h), ?_⟩
  have h1 := setCells_heap (cells s.data.toList) 0 W _ h
  have h2 := setAll_bytes N s.data.toList [] (by show 0 + s.size ≤ N; omega)
  rw [List.length_nil] at h2
  rw [h2] at h1; exact h1
theorem conv_heap (W : World) (b N n : Nat) (l : List UInt8) (t : TypeId) (h : W.heap[b]? = some (.cells (bC N l) t)) (hn : n = l.length) :
    (convert 60 9 (.slice (some ⟨b, 0, none⟩) n N)).run Tryz.prog W = .ok (.string ⟨l.toArray⟩) W := by
  subst hn
  refine run_convert_bytes_back (P := Tryz.prog) _ 60 9 5 ⟨b, 0, none⟩ N l Tryz.underlying60 Tryz.underlying5 Tryz.underlying9 (fun j hj => ?_)
  rw [Addr.add_mid, Nat.zero_add, cell_of_heap h]
  exact bC_at N l j hj
theorem forall_and_l {α : Type} [Inhabited α] {p : α → Prop} {q : Prop} (h : ∀ a, p a ∧ q) : (∀ a, p a) ∧ q := ⟨fun a => (h a).1, (h default).2⟩
theorem Tryz.zero64b : (Tryz.prog.info? 161).map (fun i => (i.zero, i.size)) = some (some (.agg (Array.replicate 64 (.int .u8 0))), 64) := by kernel_rfl
theorem bC_one (n : Nat) (l : List UInt8) : (bC n l).all (·.oneCell') = true := by
  rw [Array.all_eq_true_iff_forall_mem]
  intro v hv
  simp only [bC, Array.mem_append, List.mem_toArray, Array.mem_replicate] at hv
  rcases hv with h | ⟨_, rfl⟩
  · exact cells_one l v h
  · rfl
theorem bC_pad (k : List UInt8) : bC 64 (keyL k) = bC 64 (padK k) := (bC_zeros 64 (keyL k) _ (by have := keyL_len k; omega)).symm
end Go.Proofs.YtkbjpgfdmkmbmaaGreatDoor
