/- hash.stir: a block's sixty-four rounds. -/
import Derived.Test.YtdflghphjhejdaaDoorHashSpread
namespace Go.Proofs.YtdflghphjhejdaaDoor
open Go.RowKit

/-- the table of what each round adds lies where the program laid it -/
def RoundsIn (w : World) : Prop := w.rangeAt 0 0 kCells.toList ∧ 0 < w.heap.size
theorem RoundsIn.below {w w' : World} (h : RoundsIn w) (hb : Below w.heap.size w w') : RoundsIn w' :=
  ⟨fun j v hv => (hb.cell (p := ⟨0, 0 + j, none⟩) h.2).trans (h.1 j v hv), Nat.lt_of_lt_of_le h.2 hb.size⟩
theorem info_u32 : (Tryd.prog.info? 37).map (·.size) = some 1 := by kernel_rfl
theorem run_index_u32 (W : World) (t : TypeId) (n : Nat) (cs : Array Value) (i : Nat) (v : Value) (h : Tryd.prog.underlying t = some (.array n 37)) (hi : i < n) (hc : cs[i]? = some v) :
    (Instr.index t (.agg cs) (.int .i64 (i : Int))).run Tryd.prog W = .ok v W := by
  have hs : (sizeOf 37).run Tryd.prog W = .ok 1 W := by
    cases hq : Tryd.prog.info? 37 with
    | none => have := info_u32; simp [hq] at this
    | some j =>
      have : j.size = 1 := by have := info_u32; simpa [hq] using this
      simp [sizeOf, typeInfo, hq, this]
  simp [Instr.index, run_underlying h, asIntOf, part, hs, hi, hc]
def i8Cells (a b c d e f g h : Int) : Array Value := #[.int .u32 a, .int .u32 b, .int .u32 c, .int .u32 d, .int .u32 e, .int .u32 f, .int .u32 g, .int .u32 h]
theorem i8_one (a b c d e f g h : Int) : (i8Cells a b c d e f g h).all (·.oneCell') = true := by kernel_rfl
theorem i8_size (a b c d e f g h : Int) : (i8Cells a b c d e f g h).size = 8 := rfl
theorem i8_words (s r : S8) : i8Cells (((s.a.toNat : Int) + (r.a.toNat : Int)) % 4294967296) (((s.b.toNat : Int) + (r.b.toNat : Int)) % 4294967296) (((s.c.toNat : Int) + (r.c.toNat : Int)) % 4294967296) (((s.d.toNat : Int) + (r.d.toNat : Int)) % 4294967296)
    (((s.e.toNat : Int) + (r.e.toNat : Int)) % 4294967296) (((s.f.toNat : Int) + (r.f.toNat : Int)) % 4294967296) (((s.g.toNat : Int) + (r.g.toNat : Int)) % 4294967296) (((s.h.toNat : Int) + (r.h.toNat : Int)) % 4294967296) = h0Cells (addS s r) := by
  simp only [w_add]; rfl
theorem info_eight : (Tryd.prog.info? 46).map (·.size) = some 8 := by kernel_rfl
theorem size_alloc_lit (w : World) (o : Obj) : (w.alloc o).heap.size = w.heap.size + 1 := by simp
theorem t1h_int (a b c d e f g h k w : UInt32) : (((h.toNat : Int) + ((xorW (xorW (rotr e 6) (rotr e 11)) (rotr e 25)).toNat : Int) + bits .xor .u32 (bits .and .u32 (e.toNat : Int) (f.toNat : Int)) (bits .and .u32 (bits .xor .u32 IntKind.u32.max (e.toNat : Int)) (g.toNat : Int)) + (k.toNat : Int)) % 4294967296 + (w.toNat : Int)) % 4294967296 =
    ((t1W ⟨a, b, c, d, e, f, g, h⟩ k w).toNat : Int) := by
  rw [w_not, w_and, w_and, w_xor]
  unfold t1W
  rw [← w_add, ← w_add, ← w_add, ← w_add]
  show (((h.toNat : Int) + ((up1 e).toNat : Int) + ((chW e f g).toNat : Int) + (k.toNat : Int)) % 4294967296 + (w.toNat : Int)) % 4294967296 = _
  dsimp only
  omega
theorem t2h_int (a b c d e f g h : UInt32) : (((xorW (xorW (rotr a 2) (rotr a 13)) (rotr a 22)).toNat : Int) + bits .xor .u32 (bits .xor .u32 (bits .and .u32 (a.toNat : Int) (b.toNat : Int)) (bits .and .u32 (a.toNat : Int) (c.toNat : Int))) (bits .and .u32 (b.toNat : Int) (c.toNat : Int))) % 4294967296 =
    ((t2W ⟨a, b, c, d, e, f, g, h⟩).toNat : Int) := by
  rw [w_and, w_and, w_and, w_xor, w_xor, w_add]
  rfl
set_option maxRecDepth 100000 in
set_option maxHeartbeats 1000000 in
theorem stir_any (s8 : S8) (b : ByteArray) (hb : b.size = 64) (w : World) (hr : RoundsIn w) :
    Calls Tryd.prog 23 #[.agg (h0Cells s8), .string b] w fun e w' => e = .returned (.agg (h0Cells (blockW b.data.toList 0 s8))) ∧ Below w.heap.size w w' := by
  obtain ⟨hz, hi⟩ := zero_of_info Tryd.zero64
  rw [← wC_zero b.data.toList 0] at hz
  have hsz0 := wC_size b.data.toList 0 0 (by omega)
  have hsz := wC_size b.data.toList 0 64 (Nat.le_refl _)
  have HZ := Lib.hid hz; have HI := Lib.hid hi; have HB := Lib.hid hb; have HR := Lib.hid hr; have HS0 := Lib.hid hsz0; have HS := Lib.hid hsz; clear hz hi hb hr hsz0 hsz
  have hone := all_oneCell_toArray (wC_one b.data.toList 0 64)
  have HONE : Hid ((wC b.data.toList 0 64).all (·.oneCell') = true) := Lib.hid (by simpa using hone)
  clear hone
  unfold h0Cells
  go_enter Tryd.func23, Tryd.ntmps23
  go_wp2_with fail
  refine (spread_any _ HB.out _).mono ?_
  rintro e W1 ⟨rfl, hb1⟩
  have HB1 := Lib.hid hb1; clear hb1
  go_wp2_with (first
    | (with_reducible refine wpList_alloc_var 45 (.agg (wC b.data.toList 0 0)) HZ.out ?_)
    | (refine wpList_store_new rfl 45 (.tmp 5) (.tmp 21) (wC b.data.toList 0 0) (wC b.data.toList 0 64) rfl rfl rfl (HI.out.trans (by rw [HS.out])) (by rw [HS.out, HS0.out]) HONE.out ?_))
  have hX : Below w.heap.size w (W1.alloc (.cells (wC b.data.toList 0 64) 45)) := by
    have h2 := (((Below.refl w.heap.size w).alloc (Nat.le_refl _) (.cells (h0Cells s8) 46)).alloc (by simp) (.cells #[.int .u32 0, .int .u32 0, .int .u32 0, .int .u32 0, .int .u32 0, .int .u32 0, .int .u32 0, .int .u32 0] 46))
    have h3 := h2.trans (HB1.out.mono (by simp; omega))
    exact h3.alloc h3.size _
  have hbox : (W1.alloc (.cells (wC b.data.toList 0 64) 45)).heap[w.heap.size]? = some (.cells (h0Cells s8) 46) := by
    have h1 : ((w.alloc (.cells (h0Cells s8) 46)).alloc (.cells #[.int .u32 0, .int .u32 0, .int .u32 0, .int .u32 0, .int .u32 0, .int .u32 0, .int .u32 0, .int .u32 0] 46)).heap[w.heap.size]? = some (.cells (h0Cells s8) 46) :=
      (Below.heap_alloc _ _ _ (by simp)).trans (heap_alloc_last w _)
    have h2 := HB1.out.block w.heap.size (by simp; omega)
    have h3 : w.heap.size < W1.heap.size := by have := HB1.out.size; simp at this; omega
    exact (Below.heap_alloc _ _ _ h3).trans (h2.trans h1)
  have hout : (W1.alloc (.cells (wC b.data.toList 0 64) 45)).heap[w.heap.size + 1]? = some (.cells #[.int .u32 0, .int .u32 0, .int .u32 0, .int .u32 0, .int .u32 0, .int .u32 0, .int .u32 0, .int .u32 0] 46) := by
    have h1 := heap_alloc_last (w.alloc (.cells (h0Cells s8) 46)) (.cells #[.int .u32 0, .int .u32 0, .int .u32 0, .int .u32 0, .int .u32 0, .int .u32 0, .int .u32 0, .int .u32 0] 46)
    simp only [size_alloc_lit] at h1
    have h2 := HB1.out.block (w.heap.size + 1) (by simp)
    have h3 : w.heap.size + 1 < W1.heap.size := by have := HB1.out.size; simp at this; omega
    exact (Below.heap_alloc _ _ _ h3).trans (h2.trans h1)
  have hwd : ∀ i, i < 64 → (W1.alloc (.cells (wC b.data.toList 0 64) 45)).cell? ⟨W1.heap.size, i, none⟩ = some (.int .u32 ((schedW b.data.toList 0 i).toNat : Int)) := fun i hi => arr_at W1 _ _ i _ (wC_at b.data.toList 0 64 i hi)
  have hrd : RoundsIn (W1.alloc (.cells (wC b.data.toList 0 64) 45)) := HR.out.below hX
  generalize W1.alloc (.cells (wC b.data.toList 0 64) 45) = X at *
  generalize W1.heap.size = bw at *
  simp only [Act.put, List.setIfInBounds_toArray, List.set_cons_succ, List.set_cons_zero]
  have c0 : X.cell? ⟨w.heap.size, 0, none⟩ = some (.int .u32 (s8.a.toNat : Int)) := cell_of_heap hbox 0
  have c1 : X.cell? ⟨w.heap.size, 1, none⟩ = some (.int .u32 (s8.b.toNat : Int)) := cell_of_heap hbox 1
  have c2 : X.cell? ⟨w.heap.size, 2, none⟩ = some (.int .u32 (s8.c.toNat : Int)) := cell_of_heap hbox 2
  have c3 : X.cell? ⟨w.heap.size, 3, none⟩ = some (.int .u32 (s8.d.toNat : Int)) := cell_of_heap hbox 3
  have c4 : X.cell? ⟨w.heap.size, 4, none⟩ = some (.int .u32 (s8.e.toNat : Int)) := cell_of_heap hbox 4
  have c5 : X.cell? ⟨w.heap.size, 5, none⟩ = some (.int .u32 (s8.f.toNat : Int)) := cell_of_heap hbox 5
  have c6 : X.cell? ⟨w.heap.size, 6, none⟩ = some (.int .u32 (s8.g.toNat : Int)) := cell_of_heap hbox 6
  have c7 : X.cell? ⟨w.heap.size, 7, none⟩ = some (.int .u32 (s8.h.toNat : Int)) := cell_of_heap hbox 7
  have HX := Lib.hid hX; have HOUT := Lib.hid hout; have HWD := Lib.hid hwd; have HRD := Lib.hid hrd
  have HBOX := Lib.hid hbox
  clear hX hout hwd hrd hbox HB1
  go_quiet (fail)
  generalize wC b.data.toList 0 64 = CW
  have hrd2 : (X.drewN nq).rangeAt 0 0 kCells.toList := HRD.out.1
  have hlk : kCells.toList.length = 64 := by rw [Array.length_toList]; exact kCells_size
  have hkat := kCells_at
  generalize kCells = KA at *
  have HKA := Lib.hid hkat; have HRD2 := Lib.hid hrd2; have HLK := Lib.hid hlk
  clear hkat hrd2 hlk c0 c1 c2 c3 c4 c5 c6 c7
  go_wp2_with (with_reducible refine wpList_load_mid rfl 45 (.global 0) rfl 0 0 rfl KA.toList _ HRD2.out Tryd.underlying45 rfl (HI.out.trans (by rw [HLK.out])) ?_)
  go_loopw [6, 7, 8, 9, 10, 11, 12, 13, 39] (fun a0 a1 a2 a3 a4 a5 a6 a7 i W => ∃ k q : Nat, k ≤ 64 ∧ i = .int .i64 (k : Int) ∧ W = X.drewN q ∧ a0 = .int .u32 ((roundsW b.data.toList 0 s8 k).a.toNat : Int) ∧ a1 = .int .u32 ((roundsW b.data.toList 0 s8 k).b.toNat : Int) ∧ a2 = .int .u32 ((roundsW b.data.toList 0 s8 k).c.toNat : Int) ∧ a3 = .int .u32 ((roundsW b.data.toList 0 s8 k).d.toNat : Int) ∧
    a4 = .int .u32 ((roundsW b.data.toList 0 s8 k).e.toNat : Int) ∧ a5 = .int .u32 ((roundsW b.data.toList 0 s8 k).f.toNat : Int) ∧ a6 = .int .u32 ((roundsW b.data.toList 0 s8 k).g.toNat : Int) ∧ a7 = .int .u32 ((roundsW b.data.toList 0 s8 k).h.toNat : Int)) (fun _ _ _ _ _ _ _ _ i _ => 64 - (intOf i).toNat)
  case atStart => exact ⟨0, _, by omega, rfl, rfl, rfl, rfl, rfl, rfl, rfl, rfl, rfl, rfl⟩
  case round =>
    obtain ⟨k, q, hk, rfl, rfl, rfl, rfl, rfl, rfl, rfl, rfl, rfl, rfl⟩ := hrel
    by_cases hk64 : k < 64
    · have hd64 : decide ((k : Int) < 64) = true := by simp; omega
      have bk : (k : Int) < 64 := by omega
      have hnx : roundsW b.data.toList 0 s8 (k + 1) = roundW (roundsW b.data.toList 0 s8 k) (kAt k) (schedW b.data.toList 0 k) := rfl
      have hka := HKA.out k hk64
      have dW : (X.drewN q).cell? ⟨bw, k, none⟩ = some (.int .u32 ((schedW b.data.toList 0 k).toNat : Int)) := HWD.out k hk64
      have hix : ∀ W, (Instr.index 45 (.agg KA) (.int .i64 (k : Int))).run Tryd.prog W = .ok (.int .u32 ((kAt k).toNat : Int)) W := fun W => run_index_u32 W _ _ KA k _ Tryd.underlying45 hk64 hka
      clear hka
      generalize kAt k = kk at *
      generalize schedW b.data.toList 0 k = ww at *
      generalize roundsW b.data.toList 0 s8 k = r at *
      obtain ⟨ra, rb, rc, rd, re, rf, rg, rh⟩ := r
      have HIX := Lib.hid hix; clear hix
      have HNX := Lib.hid hnx; clear hnx
      have ht1 := t1h_int ra rb rc rd re rf rg rh kk ww
      have ht2 := t2h_int ra rb rc rd re rf rg rh
      have hv1 := w_add (t1W ⟨ra, rb, rc, rd, re, rf, rg, rh⟩ kk ww) (t2W ⟨ra, rb, rc, rd, re, rf, rg, rh⟩)
      have hv2 := w_add rd (t1W ⟨ra, rb, rc, rd, re, rf, rg, rh⟩ kk ww)
      have HNX2 : Hid (roundsW b.data.toList 0 s8 (k + 1) = ⟨addW (t1W ⟨ra, rb, rc, rd, re, rf, rg, rh⟩ kk ww) (t2W ⟨ra, rb, rc, rd, re, rf, rg, rh⟩), ra, rb, rc, addW rd (t1W ⟨ra, rb, rc, rd, re, rf, rg, rh⟩ kk ww), re, rf, rg⟩) := Lib.hid HNX.out
      generalize t1W ⟨ra, rb, rc, rd, re, rf, rg, rh⟩ kk ww = xx at *
      generalize t2W ⟨ra, rb, rc, rd, re, rf, rg, rh⟩ = yy at *
      have HT1 := Lib.hid ht1; have HT2 := Lib.hid ht2; have HV1 := Lib.hid hv1; have HV2 := Lib.hid hv2
      clear ht1 ht2 hv1 hv2 HNX
      generalize hW : X.drewN q = W at *
      have HW := Lib.hid hW; clear hW
      dsimp only
      go_wp2
      rw [HIX.out]
      simp only [Result.andThen_ok]
      rw [Oper.upon_value]
      repeat go_step
      have hif : (if IntKind.u32.signed = true then (-1 : Int) else IntKind.u32.max) = IntKind.u32.max := rfl
      rw [hif]
      clear hif
      refine wp_region_quiet_lit (by kernel_rfl) (by kernel_rfl) ?_
      repeat (go_big_quiet_step ((go_at_call 27; exact Calls.quiet_of_same (turned_q _ _ _ _ (by decide) (by decide) (by decide) (by decide) (by decide) (by decide) _))))
      refine wpQuiet_nil ?_
      intro _ hw
      obtain ⟨nq2, rfl⟩ := hw
      rw [HT1.out]
      generalize bits .xor .u32 (bits .and .u32 (re.toNat : Int) (rf.toNat : Int)) (bits .and .u32 (bits .xor .u32 IntKind.u32.max (re.toNat : Int)) (rg.toNat : Int)) = ch
      go_wp2_with (go_at_call 27; refine (turned_q _ _ _ _ (by decide) (by decide) (by decide) (by decide) (by decide) (by decide) _).mono ?_; rintro e w' ⟨rfl, rfl⟩)
      have HWN := World.drewN_drewN (w := X) (n := q) (m := nq2)
      rw [HW.out] at HWN
      refine ⟨⟨k + 1, q + nq2, by omega, by go_num, HWN, ?_, ?_, ?_, ?_, ?_, ?_, ?_, ?_⟩, by simp [intOf]; omega⟩
      · rw [HT2.out, HV1.out, HNX2.out]
      · rw [HNX2.out]
      · rw [HNX2.out]
      · rw [HNX2.out]
      · rw [HV2.out, HNX2.out]
      · rw [HNX2.out]
      · rw [HNX2.out]
      · rw [HNX2.out]
    · obtain rfl : k = 64 := by omega
      have hgoal : blockW b.data.toList 0 s8 = addS s8 (roundsW b.data.toList 0 s8 64) := rfl
      generalize roundsW b.data.toList 0 s8 64 = r at *
      have HG := Lib.hid hgoal; clear hgoal
      have hbox := HBOX.out
      have c0 : (X.drewN q).cell? ⟨w.heap.size, 0, none⟩ = some (.int .u32 (s8.a.toNat : Int)) := cell_of_heap hbox 0
      have c1 : (X.drewN q).cell? ⟨w.heap.size, 1, none⟩ = some (.int .u32 (s8.b.toNat : Int)) := cell_of_heap hbox 1
      have c2 : (X.drewN q).cell? ⟨w.heap.size, 2, none⟩ = some (.int .u32 (s8.c.toNat : Int)) := cell_of_heap hbox 2
      have c3 : (X.drewN q).cell? ⟨w.heap.size, 3, none⟩ = some (.int .u32 (s8.d.toNat : Int)) := cell_of_heap hbox 3
      have c4 : (X.drewN q).cell? ⟨w.heap.size, 4, none⟩ = some (.int .u32 (s8.e.toNat : Int)) := cell_of_heap hbox 4
      have c5 : (X.drewN q).cell? ⟨w.heap.size, 5, none⟩ = some (.int .u32 (s8.f.toNat : Int)) := cell_of_heap hbox 5
      have c6 : (X.drewN q).cell? ⟨w.heap.size, 6, none⟩ = some (.int .u32 (s8.g.toNat : Int)) := cell_of_heap hbox 6
      have c7 : (X.drewN q).cell? ⟨w.heap.size, 7, none⟩ = some (.int .u32 (s8.h.toNat : Int)) := cell_of_heap hbox 7
      have hth : (X.drewN q).there (w.heap.size + 1) 0 8 := fun j hj => by
        have hb : (X.drewN q).heap[w.heap.size + 1]? = some (.cells #[.int .u32 0, .int .u32 0, .int .u32 0, .int .u32 0, .int .u32 0, .int .u32 0, .int .u32 0, .int .u32 0] 46) := HOUT.out
        rw [Nat.zero_add]
        refine ⟨?_, frozen_of_heap hb⟩
        rw [cell_of_heap hb, Array.getElem?_eq_getElem (by simpa using hj)]; rfl
      have hbl : Below w.heap.size w (X.drewN q) := belowDrewN HX.out q
      generalize X.drewN q = W at *
      have HTH := Lib.hid hth
      clear hth hbox
      rw [show ((64 : Nat) : Int) = 64 from rfl]
      have HIE := Lib.hid info_eight
      iterate 117 go_step
      refine wpList_store_mid (P := Tryd.prog) rfl 46 (.tmp 4) (.tmp 123) rfl (w.heap.size + 1) 0 (i8Cells (((s8.a.toNat : Int) + (r.a.toNat : Int)) % 4294967296) (((s8.b.toNat : Int) + (r.b.toNat : Int)) % 4294967296) (((s8.c.toNat : Int) + (r.c.toNat : Int)) % 4294967296) (((s8.d.toNat : Int) + (r.d.toNat : Int)) % 4294967296) (((s8.e.toNat : Int) + (r.e.toNat : Int)) % 4294967296) (((s8.f.toNat : Int) + (r.f.toNat : Int)) % 4294967296) (((s8.g.toNat : Int) + (r.g.toNat : Int)) % 4294967296) (((s8.h.toNat : Int) + (r.h.toNat : Int)) % 4294967296)) rfl rfl (by rw [i8_size]; exact HTH.out) (HIE.out.trans (by rw [i8_size])) (i8_one _ _ _ _ _ _ _ _) ?_
      rw [i8_words]
      repeat go_step

      refine bodyPost_ret (results_cell (t := 4) (ty := 46) rfl _ _ (w.heap.size + 1) (h0Cells (addS s8 r)).toList _ rfl ?_ Tryd.underlying46 rfl HIE.out) rfl ⟨?_, ?_⟩
      · exact World.rangeAt_setCells_same _ _ _ _ HTH.out
      · rw [HG.out]; rfl
      · exact below_setCells hbl (by omega) _ _
end Go.Proofs.YtdflghphjhejdaaDoor
