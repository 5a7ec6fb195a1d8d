/- Texts merged by program, in build order: FrameCode. -/
import Derived.Test.YtkbjpgfdmkmbmaaDoorG04
import Derived.Test.YtkbjpgfdmkmbmaaDoorG05
import Derived.Laws.CopyRow
import Derived.Stop.BytesEq
set_option linter.unusedVariables false
set_option linter.unusedSimpArgs false
namespace Go.Proofs.YtkbjpgfdmkmbmaaDoor
open Go.RowKit
set_option linter.unusedVariables false
set_option linter.unusedSimpArgs false

/-- four bytes as an array's cells -/
def a4 (l : List UInt8) : Array Value := #[.int .u8 (b4 l 0 : Nat), .int .u8 (b4 l 1 : Nat), .int .u8 (b4 l 2 : Nat), .int .u8 (b4 l 3 : Nat)]
theorem a4_cells (l : List UInt8) (h : l.length = 4) : (a4 l).toList = cells l := by
  match l, h with
  | [a, b, c, d], _ => rfl
theorem Tryd.zero4 : (Tryd.prog.info? 105).map (fun i => (i.zero, i.size)) = some (some (.agg (Array.replicate 4 (.int .u8 0))), 4) := by kernel_rfl
set_option maxRecDepth 100000 in
set_option maxHeartbeats 1000000 in
theorem fprinted_any (n : Nat) (hn : n < 4294967296) (w : World) :
    Calls Tryd.prog 49 #[.int .u32 n] w fun e w' => e = .returned (.agg (a4 (four n))) ∧ Below w.heap.size w w' := by
  obtain ⟨hz, hi⟩ := zero_of_info Tryd.zero4
  go_enter Tryd.func49, Tryd.ntmps49
  go_wp2
  have e : ((((Array.replicate 4 (Value.int .u8 0)).setIfInBounds 0 (Value.int .u8 ((n : Int) / 16777216))).setIfInBounds 1 (Value.int .u8 ((n : Int) / 65536 % 256))).setIfInBounds 2 (Value.int .u8 ((n : Int) / 256 % 256))).setIfInBounds 3 (Value.int .u8 ((n : Int) % 256)) = a4 (four n) := by
    have k : ∀ m : Nat, ((UInt8.ofNat m).toNat : Int) = (m : Int) % 256 := fun m => by rw [UInt8.toNat_ofNat']; omega
    have k0 : ((b4 (four n) 0 : Nat) : Int) = (n : Int) / 16777216 := by refine (k _).trans ?_; omega
    have k1 : ((b4 (four n) 1 : Nat) : Int) = (n : Int) / 65536 % 256 := by refine (k _).trans ?_; omega
    have k2 : ((b4 (four n) 2 : Nat) : Int) = (n : Int) / 256 % 256 := by refine (k _).trans ?_; omega
    have k3 : ((b4 (four n) 3 : Nat) : Int) = (n : Int) % 256 := by refine (k _).trans ?_; omega
    unfold a4
    rw [k0, k1, k2, k3]
    rfl
  rw [e]
  have h4 := a4_cells (four n) rfl
  have hcs : a4 (four n) = (cells (four n)).toArray := by rw [← h4]
  rw [hcs]
  refine bodyPost_ret (results_cell (t := 2) (ty := 105) rfl _ _ w.heap.size (cells (four n)) _ rfl (range_new w _ _) Tryd.underlying105 rfl hi) rfl ⟨rfl, (Below.refl _ _).alloc (Nat.le_refl _) _⟩
/-- the first k of the four, as a number -/
def numK (l : List UInt8) : Nat → Nat
  | 0 => 0
  | k + 1 => numK l k * 256 + b4 l k
theorem numK_lt (l : List UInt8) : ∀ k, numK l k < 256 ^ k
  | 0 => Nat.one_pos
  | k + 1 => by
    have h := numK_lt l k
    have hb : b4 l k < 256 := (l.getD k 0).toNat_lt
    unfold numK
    rw [Nat.pow_succ]
    omega
theorem numK_all (l : List UInt8) : numK l 4 = num4 l := by
  unfold num4
  simp only [numK]
  omega
theorem run_index_u8 (W : World) (t : TypeId) (n : Nat) (cs : Array Value) (i : Nat) (v : Value) (h : Tryd.prog.underlying t = some (.array n 5)) (hi : i < n) (hc : cs[i]? = some v) :
    (Instr.index t (.agg cs) (.int .i64 (i : Int))).run Tryd.prog W = .ok v W := by
  have hs : (sizeOf 5).run Tryd.prog W = .ok 1 W := by
    obtain ⟨i0, h0, _, h1, _⟩ := info_parts Tryd.infoByte
    simp [sizeOf, typeInfo, h0, h1]
  simp [Instr.index, run_underlying h, asIntOf, part, hs, hi, hc]
theorem a4_at (l : List UInt8) (k : Nat) (h : k < 4) : (a4 l)[k]? = some (.int .u8 (b4 l k : Nat)) := by
  match k, h with
  | 0, _ => rfl
  | 1, _ => rfl
  | 2, _ => rfl
  | 3, _ => rfl
set_option maxRecDepth 100000 in
set_option maxHeartbeats 1000000 in
theorem fread_any (l : List UInt8) (hl : l.length = 4) (w : World) :
    Calls Tryd.prog 51 #[.agg (a4 l)] w fun e w' => e = .returned (.int .u32 (num4 l : Nat)) ∧ Below w.heap.size w w' := by
  obtain ⟨hz, hi⟩ := zero_of_info Tryd.zero4
  have hc := a4_at l
  have hall := numK_all l
  unfold a4
  go_enter Tryd.func51, Tryd.ntmps51
  go_wp2
  have e : (#[.int .u8 (b4 l 0 : Nat), .int .u8 (b4 l 1 : Nat), .int .u8 (b4 l 2 : Nat), .int .u8 (b4 l 3 : Nat)] : Array Value) = a4 l := rfl
  rw [e]
  clear e
  have hb : Below w.heap.size w (w.alloc (.cells (a4 l) 105)) := (Below.refl _ _).alloc (Nat.le_refl _) _
  generalize a4 l = C at *
  generalize w.alloc (.cells C 105) = W0 at *
  have HC := Lib.hid hc; have HB := Lib.hid hb; have HALL := Lib.hid hall
  clear hc hb hall hl
  go_loopw [3, 7] (fun n i W => ∃ k : Nat, k ≤ 4 ∧ i = .int .i64 (k : Int) ∧ n = .int .u32 (numK l k : Nat) ∧ W = W0) (fun _ i _ => 4 - (intOf i).toNat)
  case atStart => exact ⟨0, by omega, rfl, rfl, rfl⟩
  case round =>
    obtain ⟨k, hk, rfl, rfl, rfl⟩ := hrel
    by_cases hlt : k < 4
    · have hd : decide ((k : Int) < 4) = true := by simp; omega
      have hix := run_index_u8 wr 105 4 C k _ Tryd.underlying105 hlt (HC.out k hlt)
      have hb8 : b4 l k < 256 := (l.getD k 0).toNat_lt
      have hn := numK_lt l k
      have hn2 : numK l k < 16777216 := Nat.lt_of_lt_of_le hn (by
        match k, hlt with
        | 0, _ => decide
        | 1, _ => decide
        | 2, _ => decide
        | 3, _ => decide)
      have hnx : numK l (k + 1) = numK l k * 256 + b4 l k := rfl
      have hor : bits .or .u32 ((numK l k : Int) * 256) (b4 l k : Int) = ((numK l (k + 1) : Nat) : Int) := by
        have h1 := bits_word_or (numK l k * 256) (b4 l k) (by omega) (by omega)
        have h2 := or_add 8 (numK l k) (b4 l k) (by omega)
        rw [show 2 ^ 8 * numK l k = numK l k * 256 by omega] at h2
        rw [show ((numK l k : Int) * 256) = ((numK l k * 256 : Nat) : Int) by omega, h1, h2, hnx]
      obtain ⟨N1, hN1⟩ : ∃ N, numK l (k + 1) = N := ⟨_, rfl⟩
      rw [hN1] at hor
      have HN1 := Lib.hid hN1
      clear hN1
      clear hnx
      generalize numK l k = N0 at *
      generalize b4 l k = B0 at *
      have HOR := Lib.hid hor; have HIX := Lib.hid hix
      clear hor hix hn
      go_wp2
      rw [HIX.out]
      simp only [Result.andThen_ok]
      rw [Oper.upon_value]
      go_wp2
      rw [HOR.out]
      exact ⟨⟨k + 1, by omega, by go_num, by rw [HN1.out], trivial⟩, by simp [intOf]; omega⟩
    · obtain rfl : k = 4 := by omega
      rw [show ((4 : Nat) : Int) = 4 from rfl, HALL.out]
      go_wp2
      go_ret
      exact ⟨rfl, HB.out⟩
theorem a4_size (l : List UInt8) : (a4 l).size = 4 := rfl
theorem a4_one (l : List UInt8) : (a4 l).all (·.oneCell') = true := by simp [a4, Value.oneCell']
/-- 'copy', by its run, as one step of a region that draws -/
theorem step_copy_run {P : Program} {ops : Array Oper} {o : Oper} {a : Act} {w w' : World} {K : Act → World → Prop} {Q : Exit → Act → World → Prop} {E : Prop}
    (hg : o.guard = none) (d x : Operand) (dT sT : TypeId) (hop : o.op = Op.call { callee := Callee.builtin Builtin.copy, args := #[d, x], argTypes := #[dT, sT] })
    (v u r : Value) (hd : a.eval d = v) (hx : a.eval x = u) (hrun : (Builtin.copy_ #[dT, sT] o.type #[v, u]).run P w = .ok r w')
    (hK : K (a.put o.dst r) w') :
    if Region.wanted o (yielded ops a.tmps) = true then Oper.wp P o a w K Q else E := by
  have hw : Region.wanted o (yielded ops a.tmps) = true := by simp [Region.wanted, hg]
  rw [if_pos hw]
  unfold Oper.wp
  simp [execOp, hop, resolve, invoke, builtin, hd, hx, hrun, Result.andThen]
  exact hK
/-- a text's first four bytes copied into an array -/
theorem copy_four (W : World) (g : Nat) (C : Array Value) (hC : C.size = 4) (hg : W.heap[g]? = some (.cells C 105)) (l : List UInt8) (h4 : 4 ≤ l.length) (ty : TypeId) :
    (Builtin.copy_ #[38, 9] ty #[.slice (some ⟨g, 0, none⟩) 4 4, .string ⟨l.toArray⟩]).run Tryd.prog W = .ok (goInt 4) (W.setRow g (a4 (l.take 4))) := by
  have hl : (l.take 4).length = 4 := by rw [List.length_take]; omega
  have hll : (cells (l.take 4)).length = 4 := by simp [cells]; omega
  have hst := run_storeCells_at Tryd.prog g 0 105 (cells (l.take 4)) 0 C W hg (by rw [hll]; omega) (cells_one _)
  have hmin : Nat.min (⟨l.toArray⟩ : ByteArray).size 4 = 4 := Nat.min_eq_right h4
  have e : (C.toList.take (0 + 0) ++ cells (l.take 4) ++ C.toList.drop (0 + 0 + (cells (l.take 4)).length)).toArray = a4 (l.take 4) := by
    rw [hll, List.drop_of_length_le (by simp [hC])]
    rw [← a4_cells _ hl]
    simp
  rw [e] at hst
  obtain ⟨i0, h0, _, h1, _⟩ := info_parts Tryd.infoByte
  have ht : Tryd.prog.underlying 38 = _ := Tryd.underlying38
  have htk : List.take 4 (List.map (fun b : UInt8 => Value.int IntKind.u8 (b.toNat : Int)) l) = cells (l.take 4) := by
    unfold cells; rw [List.map_take]
  simp [Builtin.copy_, run_underlying ht, Builtin.lenOf, Builtin.firstCells, sizeOf, typeInfo, h0, h1, hmin, htk, hst]
theorem arr_rd {W : World} {g : Nat} {l : List UInt8} (hl : l.length = 4) (hg : W.heap[g]? = some (.cells (a4 l) 105)) : RdAt W (.slice (some ⟨g, 0, none⟩) 4 4) l :=
  ⟨_, 4, by rw [hl], by omega, by decide, .inr ⟨g, 0, rfl, (Array.getElem?_eq_some_iff.1 hg).1, fun j u hu => by
    rw [Addr.add_lit, Nat.zero_add, cell_here hg]
    rw [← a4_cells l hl] at hu
    simpa using hu⟩⟩
theorem setRow_there (W : World) (g k : Nat) (C : Array Value) (h : k ≠ g) : (W.setRow g C).heap[k]? = W.heap[k]? := by
  unfold World.setRow
  simp only [Array.getElem?_modify]
  rw [if_neg (fun e => h e.symm)]
theorem below_setRow {B : Nat} {w w' : World} (h : Below B w w') {g : Nat} (hg : B ≤ g) (C : Array Value) : Below B w (w'.setRow g C) :=
  ⟨h.os, h.tape, h.output, by have := h.size; simpa [World.setRow] using this, fun k hk => (setRow_there _ _ _ _ (by omega)).trans (h.block k hk)⟩
theorem a4_zero : Array.replicate 4 (Value.int .u8 0) = a4 [0, 0, 0, 0] := rfl
set_option maxRecDepth 100000 in
set_option maxHeartbeats 1000000 in
theorem fmarked_any (num : List UInt8) (hn : num.length = 4) (A : Option Addr) (c : Nat) (l : List UInt8) (hl : l.length ≤ 100000) (w : World) (hr : RoundsIn w) (h : RdW w (.slice A l.length c) l) :
    Calls Tryd.prog 50 #[.agg (a4 num), .slice A l.length c] w fun e w' => e = .returned (.agg (a4 ((sumL (num ++ l)).take 4))) ∧ Below w.heap.size w w' := by
  obtain ⟨hz, hi⟩ := zero_of_info Tryd.zero4
  rw [a4_zero] at hz
  obtain ⟨n, hln⟩ : ∃ n, l.length = n := ⟨_, rfl⟩
  have hsum := fun W (hb : Below w.heap.size w W) => sum_any ⟨(num ++ l).toArray⟩ (by show (num ++ l).toArray.size ≤ _; simp; omega) W (hr.below hb)
  have hsd : (⟨(num ++ l).toArray⟩ : ByteArray).data.toList = num ++ l := by simp
  rw [hsd] at hsum
  have s1 := fun W => run_string_add_sum (P := Tryd.prog) W ⟨num.toArray⟩ ⟨l.toArray⟩ (by show num.toArray.size + l.toArray.size ≤ _; simp; omega)
  have sj : (⟨num.toArray⟩ : ByteArray) ++ ⟨l.toArray⟩ = ⟨(num ++ l).toArray⟩ := by
    apply ByteArray.ext; simp [ByteArray.data_append]
  rw [sj] at s1
  rw [hln] at h ⊢
  obtain ⟨SN, hSN⟩ : ∃ S : ByteArray, S = ⟨num.toArray⟩ := ⟨_, rfl⟩
  obtain ⟨SL, hSL⟩ : ∃ S : ByteArray, S = ⟨l.toArray⟩ := ⟨_, rfl⟩
  obtain ⟨SF, hSF⟩ : ∃ S : ByteArray, S = ⟨(num ++ l).toArray⟩ := ⟨_, rfl⟩
  have hsl : 4 ≤ (sumL (num ++ l)).length := by rw [sum_len]; omega
  obtain ⟨M, hM⟩ : ∃ M, sumL (num ++ l) = M := ⟨_, rfl⟩
  rw [← hSF, hM] at hsum
  rw [← hSN, ← hSL, ← hSF] at s1
  rw [hM] at hsl ⊢
  obtain ⟨C0, hC0⟩ : ∃ C, a4 num = C := ⟨_, rfl⟩
  obtain ⟨CZ, hCZ⟩ : ∃ C, a4 [0, 0, 0, 0] = C := ⟨_, rfl⟩
  have hu : C0 = #[.int .u8 (b4 num 0 : Nat), .int .u8 (b4 num 1 : Nat), .int .u8 (b4 num 2 : Nat), .int .u8 (b4 num 3 : Nat)] := by rw [← hC0]; rfl
  rw [hCZ] at hz
  rw [hC0]
  obtain ⟨W0, hW0⟩ : ∃ W, W = ((w.alloc (.cells C0 105)).alloc (.cells CZ 105)).alloc (.cells CZ 105) := ⟨_, rfl⟩
  have hb0 : Below w.heap.size w W0 := by rw [hW0]; exact (((Below.refl _ _).alloc (Nat.le_refl _) _).alloc (by simp) _).alloc (by simp; omega) _
  have k0 : W0.heap[w.heap.size]? = some (.cells (a4 num) 105) := by rw [hW0, hC0]; exact alloc_block (alloc_block (heap_alloc_last w _))
  have k1 : W0.heap[w.heap.size + 1]? = some (.cells CZ 105) := by rw [hW0]; exact alloc_block (fresh_at _ (by simp))
  have k2 : W0.heap[w.heap.size + 1 + 1]? = some (.cells CZ 105) := by rw [hW0]; exact fresh_at _ (by simp)
  have hc1 : ∀ W, Below W0.heap.size W0 W → (convert 38 9 (.slice (some ⟨w.heap.size, 0, none⟩) 4 4)).run Tryd.prog W = .ok (.string SN) W := fun W hb => by
    rw [hSN]; exact (arr_rd hn (blk_below k0 hb)).text
  have hc2 : ∀ W, Below W0.heap.size W0 W → (convert 38 9 (.slice A n c)).run Tryd.prog W = .ok (.string SL) W := fun W hb => by
    rw [hSL]; exact (h.below (hb0.chain hb)).text
  have hcp : ∀ W, Below W0.heap.size W0 W → ∀ ty, (Builtin.copy_ #[38, 9] ty #[.slice (some ⟨w.heap.size + 1 + 1, 0, none⟩) 4 4, .string ⟨M.toArray⟩]).run Tryd.prog W = .ok (goInt 4) (W.setRow (w.heap.size + 1 + 1) (a4 (M.take 4))) := fun W hb ty =>
    copy_four W _ CZ (by rw [← hCZ]; rfl) (blk_below k2 hb) M hsl ty
  have hkp : ∀ W, Below W0.heap.size W0 W → ((convert 38 9 (.slice (some ⟨w.heap.size, 0, none⟩) 4 4)).run Tryd.prog (W.setRow (w.heap.size + 1 + 1) (a4 (M.take 4))) = .ok (.string SN) (W.setRow (w.heap.size + 1 + 1) (a4 (M.take 4)))) ∧ ((convert 38 9 (.slice A n c)).run Tryd.prog (W.setRow (w.heap.size + 1 + 1) (a4 (M.take 4))) = .ok (.string SL) (W.setRow (w.heap.size + 1 + 1) (a4 (M.take 4)))) := fun W hb => by
    have hs : (W.setRow (w.heap.size + 1 + 1) (a4 (M.take 4))).heap.size = W.heap.size := by simp [World.setRow]
    have ho : ∀ g, g ≠ w.heap.size + 1 + 1 → (W.setRow (w.heap.size + 1 + 1) (a4 (M.take 4))).heap[g]? = W.heap[g]? := fun g hg => setRow_there _ _ _ _ hg
    refine ⟨?_, ?_⟩
    · rw [hSN]; exact (arr_rd hn ((ho _ (by omega)).trans (blk_below k0 hb))).text
    · rw [hSL]
      have h1 := h.below (hb0.chain hb)
      exact (h1.keep (Nat.le_of_eq hs.symm) fun g hg => ho g (by have := h.lt hg; omega)).text
  have HKEEP := Lib.hid hkp; clear hkp
  have hsm : ∀ W, Below W0.heap.size W0 W → _ := fun W hb => hsum W (hb0.chain hb)
  have HZS : Hid (CZ.size = 4) := Lib.hid (by rw [← hCZ]; rfl)
  have HC1 := Lib.hid hc1; have HC2 := Lib.hid hc2; have HCP := Lib.hid hcp; have HSUM := Lib.hid hsm; have HB0 := Lib.hid hb0; have HW0 := Lib.hid hW0; have K0 := Lib.hid k0; have K1 := Lib.hid k1; have K2 := Lib.hid k2
  have HZ := Lib.hid hz; have HI := Lib.hid hi
  clear hc1 hc2 hcp hsum hb0 hW0 k0 k1 k2 h hSN hSL hSF hn hl hln hM hsl hr hsd sj hC0 hCZ hz hi hsm hu
  go_enter Tryd.func50, Tryd.ntmps50
  go_wp2_with (with_reducible refine wpList_alloc_var 105 (.agg CZ) HZ.out ?_)
  simp only [show (Value.agg CZ).cells = CZ from rfl, Act.put, List.setIfInBounds_toArray, List.set_cons_zero, List.set_cons_succ, World.size_alloc]
  rw [← HW0.out]
  refine wp_region_held_drew (S := (fun W => (convert 38 9 (.slice (some ⟨w.heap.size, 0, none⟩) 4 4)).run Tryd.prog W = .ok (.string SN) W ∧ (convert 38 9 (.slice A n c)).run Tryd.prog W = .ok (.string SL) W)) (by kernel_rfl) (⟨HC1.out _ (Below.refl _ _).drew, HC2.out _ (Below.refl _ _).drew⟩) (fun hHeld => ?_)
  refine wpAnyH_take (i := 0) (oi := _) (v := ?v1) (by simp only [List.getElem?_toArray, List.getElem?_cons_succ, List.getElem?_cons_zero]; rfl) (by kernel_rfl) (by kernel_rfl) (by kernel_rfl) (by exact fun _ _ _ h => h) (Or.inl ⟨by rfl, ?hy1⟩) (by assumption) ?rest1
  case hy1 => (intro w hSw; (try dsimp only at hSw); go_simp; try with_reducible rfl)
  try simp only [Act.put, List.setIfInBounds_toArray, List.set_cons_zero, List.set_cons_succ]
  refine wpAnyH_take (i := 1) (oi := _) (v := ?v2) (by simp only [List.getElem?_toArray, List.getElem?_cons_succ, List.getElem?_cons_zero]; rfl) (by kernel_rfl) (by kernel_rfl) (by kernel_rfl) (by exact fun _ _ _ h => h) (Or.inl ⟨by rfl, ?hy2⟩) (by assumption) ?rest2
  case hy2 => (intro w hSw; (try dsimp only at hSw); go_simp; try with_reducible rfl)
  try simp only [Act.put, List.setIfInBounds_toArray, List.set_cons_zero, List.set_cons_succ]
  refine wpAnyH_take (i := 3) (oi := _) (v := ?v3) (by simp only [List.getElem?_toArray, List.getElem?_cons_succ, List.getElem?_cons_zero]; rfl) (by kernel_rfl) (by kernel_rfl) (by kernel_rfl) (by exact fun _ _ _ h => h) (Or.inl ⟨by rfl, ?hy3⟩) (by assumption) ?rest3
  case hy3 => (intro w hSw; (try dsimp only at hSw); go_simp; try with_reducible rfl)
  try simp only [Act.put, List.setIfInBounds_toArray, List.set_cons_zero, List.set_cons_succ]
  refine wpAnyH_take (i := 2) (oi := _) (v := ?v4) (by simp only [List.getElem?_toArray, List.getElem?_cons_succ, List.getElem?_cons_zero]; rfl) (by kernel_rfl) (by kernel_rfl) (by kernel_rfl) (by exact fun _ _ _ h => h) (Or.inl ⟨by rfl, ?hy4⟩) (by assumption) ?rest4
  case hy4 => (intro w hSw; (try dsimp only at hSw); go_simp; try with_reducible rfl)
  try simp only [Act.put, List.setIfInBounds_toArray, List.set_cons_zero, List.set_cons_succ]
  refine wpAnyH_take (i := 4) (oi := _) (v := ?v5) (by simp only [List.getElem?_toArray, List.getElem?_cons_succ, List.getElem?_cons_zero]; rfl) (by kernel_rfl) (by kernel_rfl) (by kernel_rfl) (by exact fun _ _ _ h => h) (Or.inl ⟨by rfl, ?hy5⟩) (by assumption) ?rest5
  case hy5 => (intro w hSw; (try dsimp only at hSw); go_simp; try with_reducible rfl)
  try simp only [Act.put, List.setIfInBounds_toArray, List.set_cons_zero, List.set_cons_succ]
  refine wpAnyH_take (i := 5) (oi := _) (v := ?v6) (by simp only [List.getElem?_toArray, List.getElem?_cons_succ, List.getElem?_cons_zero]; rfl) (by kernel_rfl) (by kernel_rfl) (by kernel_rfl) (by exact fun _ _ _ h => h) (Or.inl ⟨by rfl, ?hy6⟩) (by assumption) ?rest6
  case hy6 => (intro w hSw; (try dsimp only at hSw); go_simp; try with_reducible rfl)
  try simp only [Act.put, List.setIfInBounds_toArray, List.set_cons_zero, List.set_cons_succ]
  refine wpAnyH_ready (rs := [6]) (by kernel_rfl) (by simp) ?_
  refine AllReadyH.cons (o := _) (by simp only [List.getElem?_toArray, List.getElem?_cons_succ, List.getElem?_cons_zero]; rfl) (fun K hK => ?_) AllReadyH.nil
  go_simp
  refine (HSUM.out _ (Below.refl _ _).drew).mono ?_
  rintro e w2 ⟨rfl, hb2⟩
  have HB2 := Lib.hid ((Below.refl W0.heap.size W0).drew.chain hb2); clear hb2
  dsimp only
  refine hK.out _ _ (⟨HC1.out _ HB2.out, HC2.out _ HB2.out⟩) (fun hHeld => ?_)
  clear hK K
  try simp only [Act.put, List.setIfInBounds_toArray, List.set_cons_zero, List.set_cons_succ]
  refine wpAnyH_ready (rs := [7]) (by kernel_rfl) (by simp) ?_
  refine AllReadyH.cons (o := _) (by simp only [List.getElem?_toArray, List.getElem?_cons_succ, List.getElem?_cons_zero]; rfl) (fun K hK => ?_) AllReadyH.nil
  refine step_copy_run rfl (.tmp 6) (.tmp 12) 38 9 rfl _ _ _ rfl rfl (HCP.out _ HB2.out _) ?_
  refine hK.out _ _ (HKEEP.out _ HB2.out) (fun hHeld => ?_)
  clear hK K
  try simp only [Act.put, List.setIfInBounds_toArray, List.set_cons_zero, List.set_cons_succ]
  refine wpAnyH_done (by kernel_rfl) ?_ _
  have hb3 : Below w.heap.size w (w2.setRow (w.heap.size + 1 + 1) (a4 (M.take 4))) := below_setRow (HB0.out.chain HB2.out) (by omega) _
  have k3 : (w2.setRow (w.heap.size + 1 + 1) (a4 (M.take 4))).heap[w.heap.size + 1 + 1]? = some (.cells (a4 (M.take 4)) 105) := setRow_heap w2 _ _ _ _ _ (blk_below K2.out HB2.out)
  have k4 : (w2.setRow (w.heap.size + 1 + 1) (a4 (M.take 4))).heap[w.heap.size + 1]? = some (.cells CZ 105) := (setRow_there _ _ _ _ (by omega)).trans (blk_below K1.out HB2.out)
  obtain ⟨C4, hC4⟩ : ∃ C, a4 (M.take 4) = C := ⟨_, rfl⟩
  have hs4 : C4.size = 4 := by rw [← hC4]; rfl
  have h14 : C4.all (·.oneCell') = true := by rw [← hC4]; exact a4_one _
  rw [hC4] at hb3 k3 k4 ⊢
  generalize w2.setRow (w.heap.size + 1 + 1) C4 = W3 at *
  have hrg : W3.rangeAt (w.heap.size + 1 + 1) 0 C4.toList := fun j v hv => by
    rw [Nat.zero_add]; exact (cell_here k3).trans (by simpa using hv)
  have hth : W3.there (w.heap.size + 1) 0 C4.size := fun j hj => by
    rw [Nat.zero_add]
    exact ⟨by rw [cell_here k4]; rw [hs4] at hj; rw [Array.getElem?_eq_getElem (by rw [HZS.out]; exact hj)]; rfl, frozen_here k4 _⟩
  have HRG := Lib.hid hrg; have HTH := Lib.hid hth; have HS4 := Lib.hid hs4; have H14 := Lib.hid h14; have HB3 := Lib.hid hb3; have HC4 := Lib.hid hC4
  clear hrg hth hs4 h14 hb3 k3 k4 hC4
  go_wp2_with (first
    | (with_reducible refine wpList_load_mid rfl 105 (.tmp 5) rfl (w.heap.size + 1 + 1) 0 rfl C4.toList _ HRG.out Tryd.underlying105 rfl (HI.out.trans (by rw [Array.length_toList, HS4.out])) ?_)
    | (with_reducible refine wpList_store_mid rfl 105 (.tmp 4) (.tmp 14) rfl (w.heap.size + 1) 0 C4 rfl rfl HTH.out (HI.out.trans (by rw [HS4.out])) H14.out ?_))
  refine bodyPost_ret (results_cell (t := 4) (ty := 105) rfl _ _ (w.heap.size + 1) C4.toList _ rfl (World.rangeAt_setCells_same _ _ _ _ (by rw [Array.length_toList]; exact HTH.out)) Tryd.underlying105 rfl (HI.out.trans (by rw [Array.length_toList, HS4.out]))) rfl ⟨?_, ?_⟩
  · rw [HC4.out]
  · exact below_setCells HB3.out (by omega) _ _
theorem wpList_copy_run {P : Program} {ops : Array Oper} {rest : List Oper} {o : Oper} {a : Act} {w w' : World} {Q : Exit → Act → World → Prop}
    (hg : o.guard = none) (d x : Operand) (dT sT : TypeId) (hop : o.op = Op.call { callee := Callee.builtin Builtin.copy, args := #[d, x], argTypes := #[dT, sT] })
    (v u r : Value) (hd : a.eval d = v) (hx : a.eval x = u) (hrun : (Builtin.copy_ #[dT, sT] o.type #[v, u]).run P w = .ok r w')
    (h : wpList P ops Q rest (a.put o.dst r) w') : wpList P ops Q (o :: rest) a w :=
  wpList_step fun _ hK => step_copy_run hg d x dT sT hop v u r hd hx hrun (hK _ _ h)
set_option maxRecDepth 100000 in
/-- a slice's first four bytes copied into an array -/
theorem copy_four_s (W : World) (q : Nat) (C : Array Value) (hC : C.size = 4) (hg : W.heap[q]? = some (.cells C 105)) (A : Option Addr) (n c : Nat) (l : List UInt8) (hn : l.length = n) (h : RdW W (.slice A n c) l) (h4 : 4 ≤ n) (ty : TypeId) :
    (Builtin.copy_ #[38, 38] ty #[.slice (some ⟨q, 0, none⟩) 4 4, .slice A n c]).run Tryd.prog W = .ok (goInt 4) (W.setRow q (a4 (l.take 4))) := by
  subst hn
  obtain ⟨A', c', e, h1, h2, h3⟩ := h
  cases e
  rcases h3 with h3 | ⟨g, o, rfl, hgl, h3⟩
  · omega
  have hl : (l.take 4).length = 4 := by rw [List.length_take]; omega
  have hll : (cells (l.take 4)).length = 4 := by simp [cells]; omega
  obtain ⟨i0, h0, _, h1', _⟩ := info_parts Tryd.infoByte
  have hr := run_copy_row (P := Tryd.prog) W 38 38 ty 5 q 0 4 4 ⟨g, o, none⟩ l.length c C 105 (cells (l.take 4)) Tryd.underlying38 (by rw [h0]; simp [h1']) hg
    (by rw [hll]; exact (Nat.min_eq_right h4).symm) (fun j v hv => h3 j v (cells_take l 4 j v hv)) (by rw [hll]; omega) (cells_one _)
  rw [hr, hll]
  congr 2
  rw [List.drop_of_length_le (by simp [hC]), ← Array.toArray_toList (xs := a4 (l.take 4)), a4_cells _ hl]
  simp
theorem four_num4 (l : List UInt8) (h : 4 ≤ l.length) : four (num4 l) = l.take 4 := by
  match l, h with
  | a :: b :: c :: d :: r, _ =>
    have e : num4 (a :: b :: c :: d :: r) = a.toNat * 16777216 + b.toNat * 65536 + c.toNat * 256 + d.toNat := rfl
    have ha := a.toNat_lt
    have hb := b.toNat_lt
    have hc := c.toNat_lt
    have hd := d.toNat_lt
    have k : ∀ (m : Nat) (x : UInt8), m % 256 = x.toNat → UInt8.ofNat m = x := fun m x hx => by
      apply UInt8.toNat_inj.1
      rw [UInt8.toNat_ofNat']; omega
    rw [e]
    unfold four
    rw [k _ a (by omega), k _ b (by omega), k _ c (by omega), k _ d (by omega)]
    rfl
/-- the frame at the front, as the code finds it -/
theorem firstL_code (l : List UInt8) (h : 8 ≤ l.length) : firstL l = if num4 l ≤ 32768 ∧ num4 l ≤ l.length - 8 ∧ (sumL (l.take 4 ++ (l.drop 8).take (num4 l))).take 4 = (l.drop 4).take 4 then some (num4 l) else none := by
  unfold firstL
  obtain ⟨s, hs⟩ : ∃ s, num4 l = s := ⟨_, rfl⟩
  have hf := four_num4 l (by omega)
  rw [hs] at hf ⊢
  by_cases h1 : s ≤ 32768 ∧ s ≤ l.length - 8
  · have hP : ((l.drop 8).take s).length = s := by rw [List.length_take, List.length_drop]; omega
    have e : l.take (8 + s) = l.take 4 ++ (l.drop 4).take 4 ++ (l.drop 8).take s := by
      rw [List.take_add, List.take_add (i := 4) (j := 4)]
    have e2 : frameL ((l.drop 8).take s) = l.take 4 ++ (sumL (l.take 4 ++ (l.drop 8).take s)).take 4 ++ (l.drop 8).take s := by
      unfold frameL markF
      rw [hP, hf]
    rw [e, e2]
    by_cases h2 : (sumL (l.take 4 ++ (l.drop 8).take s)).take 4 = (l.drop 4).take 4
    · rw [if_pos ⟨h, h1.1, h1.2, by rw [h2]⟩, if_pos ⟨h1.1, h1.2, h2⟩]
    · rw [if_neg (fun k => h2 (by
        have k4 := k.2.2.2
        rw [List.append_assoc, List.append_assoc] at k4
        have k5 := List.append_cancel_left k4
        exact List.append_cancel_right k5)), if_neg (fun k => h2 k.2.2)]
  · rw [if_neg (fun k => h1 ⟨k.2.1, k.2.2.1⟩), if_neg (fun k => h1 ⟨k.1, k.2.1⟩)]
theorem four_at {W : World} {q : Nat} {l : List UInt8} (h : W.heap[q]? = some (.cells (a4 l) 105)) : W.cell? ⟨q, 0, none⟩ = some (.int .u8 (b4 l 0 : Nat)) ∧ W.cell? ⟨q, 1, none⟩ = some (.int .u8 (b4 l 1 : Nat)) ∧ W.cell? ⟨q, 2, none⟩ = some (.int .u8 (b4 l 2 : Nat)) ∧ W.cell? ⟨q, 3, none⟩ = some (.int .u8 (b4 l 3 : Nat)) :=
  ⟨cell_here h, cell_here h, cell_here h, cell_here h⟩
theorem eq_four (W : World) (xs ys : List UInt8) (hx : xs.length = 4) (hy : ys.length = 4) :
    (Op.equalIn 10000 105 (.agg #[.int .u8 (b4 xs 0 : Nat), .int .u8 (b4 xs 1 : Nat), .int .u8 (b4 xs 2 : Nat), .int .u8 (b4 xs 3 : Nat)]) (.agg (a4 ys))).run Tryd.prog W = .ok (xs == ys) W := by
  have h := run_equalIn_bytes (P := Tryd.prog) W 9998 105 5 4 Tryd.underlying105 Tryd.underlying5 (fun w => by
    obtain ⟨i0, h0, _, h1', _⟩ := info_parts Tryd.infoByte
    simp [sizeOf, typeInfo, h0, h1']) xs ys hx hy
  have e : ∀ l : List UInt8, l.length = 4 → (l.map Extern.Stop.cell).toArray = a4 l := fun l hl => by
    rw [← Array.toArray_toList (xs := a4 l), a4_cells l hl]; rfl
  rw [e xs hx, e ys hy] at h
  exact h
/-- what first answers -/
def FirstIs (w : World) (c : Nat) (l : List UInt8) (e : Ending) : Prop :=
  (firstL l = none ∧ e = .returned (.tuple #[.slice none 0 0, .bool false])) ∨ ∃ (k : Nat) (PA : Option Addr), firstL l = some k ∧ e = .returned (.tuple #[.slice PA k (c - 8), .bool true]) ∧ RdW w (.slice PA k (c - 8)) ((l.drop 8).take k)
set_option maxRecDepth 100000 in
set_option maxHeartbeats 1000000 in
theorem ffirst_any (A : Option Addr) (c : Nat) (l : List UInt8) (hl : l.length ≤ 100000) (w : World) (hr : RoundsIn w) (h : RdW w (.slice A l.length c) l) :
    Calls Tryd.prog 35 #[.slice A l.length c] w fun e w' => FirstIs w c l e ∧ Below w.heap.size w w' := by
  obtain ⟨hz, hi⟩ := zero_of_info Tryd.zero4
  rw [a4_zero] at hz
  obtain ⟨n, hn⟩ : ∃ n, l.length = n := ⟨_, rfl⟩
  by_cases h8 : n < 8
  · have hf : firstL l = none := by unfold firstL; rw [if_neg (fun k => by omega)]
    have hd : decide ((n : Int) < 8) = true := by simp; omega
    have HF := Lib.hid hf
    rw [hn]
    clear hf h hr hl hn hz hi
    go_enter Tryd.func35, Tryd.ntmps35
    go_wp2
    go_ret2
    exact ⟨.inl ⟨HF.out, rfl⟩, Below.refl _ _⟩
  · have hd : decide ((n : Int) < 8) = false := by simp; omega
    obtain ⟨g, o, rfl, hgl, -⟩ := rdw_at h (by omega)
    have hcn : n ≤ c ∧ c ≤ 9223372036854775807 := by
      obtain ⟨A', c', e, h1, h2, h3⟩ := h
      cases e
      exact ⟨by omega, h2⟩
    have hcode := firstL_code l (by omega)
    obtain ⟨N4, hN4⟩ : ∃ N, l.take 4 = N := ⟨_, rfl⟩
    obtain ⟨M4, hM4⟩ : ∃ N, (l.drop 4).take 4 = N := ⟨_, rfl⟩
    have hN4l : N4.length = 4 := by rw [← hN4, List.length_take]; omega
    have hM4l : M4.length = 4 := by rw [← hM4, List.length_take, List.length_drop]; omega
    have hnum : num4 N4 = num4 l := by rw [← hN4]; exact num4_take l 4 (Nat.le_refl _)
    obtain ⟨s, hs⟩ : ∃ s, num4 l = s := ⟨_, rfl⟩
    have hs32 : s < 4294967296 := by rw [← hs]; exact num4_lt l
    rw [hN4, hM4, hs, hn] at hcode
    rw [hs] at hnum
    obtain ⟨CZ, hCZ⟩ : ∃ C, a4 [0, 0, 0, 0] = C := ⟨_, rfl⟩
    have hCZs : CZ.size = 4 := by rw [← hCZ]; rfl
    rw [hCZ] at hz
    obtain ⟨W0, hW0⟩ : ∃ W, W = (w.alloc (.cells CZ 105)).alloc (.cells CZ 105) := ⟨_, rfl⟩
    have hb0 : Below w.heap.size w W0 := by rw [hW0]; exact ((Below.refl _ _).alloc (Nat.le_refl _) _).alloc (by simp) _
    have k0 : W0.heap[w.heap.size]? = some (.cells CZ 105) := by rw [hW0]; exact alloc_block (heap_alloc_last w _)
    have k1 : W0.heap[w.heap.size + 1]? = some (.cells CZ 105) := by rw [hW0]; exact fresh_at _ (by simp)
    have h0 : RdW W0 (.slice (some ⟨g, o, none⟩) n c) l := by rw [← hn]; exact h.below hb0
    have hcp1 := fun ty => copy_four_s W0 w.heap.size CZ hCZs k0 (some ⟨g, o, none⟩) n c l hn h0 (by omega) ty
    rw [hN4] at hcp1
    obtain ⟨W1, hW1⟩ : ∃ W, W = W0.setRow w.heap.size (a4 N4) := ⟨_, rfl⟩
    rw [← hW1] at hcp1
    have hb1 : Below w.heap.size w W1 := by rw [hW1]; exact below_setRow hb0 (Nat.le_refl _) _
    have k2 : W1.heap[w.heap.size]? = some (.cells (a4 N4) 105) := by rw [hW1]; exact setRow_heap W0 _ _ _ _ _ k0
    have k3 : W1.heap[w.heap.size + 1]? = some (.cells CZ 105) := by rw [hW1]; exact (setRow_there _ _ _ _ (by omega)).trans k1
    have hw1 : RdW W1 (.slice (some ⟨g, o, none⟩) l.length c) l := h.below hb1
    have hsub4 : RdW W1 (.slice (some ⟨g, o + 4, none⟩) (n - 4) (c - 4)) (l.drop 4) := by
      have h2 := RdW.sub hw1 (by omega) 4 n (by omega) (by omega)
      rwa [List.take_of_length_le (by rw [List.length_drop]; omega)] at h2
    have hcp2 : ∀ W, Below W1.heap.size W1 W → ∀ ty, (Builtin.copy_ #[38, 38] ty #[.slice (some ⟨w.heap.size + 1, 0, none⟩) 4 4, .slice (some ⟨g, o + 4, none⟩) (n - 4) (c - 4)]).run Tryd.prog W = .ok (goInt 4) (W.setRow (w.heap.size + 1) (a4 M4)) := fun W hb ty => by
      have := copy_four_s W (w.heap.size + 1) CZ hCZs (blk_below k3 hb) (some ⟨g, o + 4, none⟩) (n - 4) (c - 4) (l.drop 4) (by rw [List.length_drop]; omega) (hsub4.below hb) (by omega) ty
      rw [hM4] at this
      exact this
    have HH := Lib.hid h; have HR := Lib.hid hr; have HN := Lib.hid hn; have HCODE := Lib.hid hcode; have HN4L := Lib.hid hN4l; have HM4L := Lib.hid hM4l; have HNUM := Lib.hid hnum; have HW0 := Lib.hid hW0; have HW1 := Lib.hid hW1
    have HCP1 := Lib.hid hcp1; have HCP2 := Lib.hid hcp2; have HB1 := Lib.hid hb1; have K2 := Lib.hid k2; have K3 := Lib.hid k3; have HZ := Lib.hid hz; have HI := Lib.hid hi; have HL := Lib.hid hl
    rw [hn]
    clear h hr hn hcode hN4l hM4l hnum hW0 hW1 hcp1 hcp2 hb1 k2 k3 hz hi hl hN4 hM4 hs hCZ hb0 k0 k1 h0 hw1 hsub4 hCZs
    go_enter Tryd.func35, Tryd.ntmps35
    go_wp2_with (with_reducible refine wpList_alloc_var 105 (.agg CZ) HZ.out ?_)
    rw [← HW0.out, HCP1.out]
    simp only [Result.andThen_ok]
    rw [Oper.upon_value]
    have q1 : (4 : Int) ≤ n := by omega
    have q2 : (n : Int) ≤ c := by omega
    have q3 : ¬ c = 4 := by omega
    go_wp2
    refine wp_region_held_drew (S := (fun W => True)) (by kernel_rfl) (trivial) (fun hHeld => ?_)
    refine wpAnyH_take (i := 0) (oi := _) (v := ?v1) (by simp only [List.getElem?_toArray, List.getElem?_cons_succ, List.getElem?_cons_zero]; rfl) (by kernel_rfl) (by kernel_rfl) (by kernel_rfl) (by exact fun _ _ _ h => h) (Or.inl ⟨by rfl, ?hy1⟩) (by assumption) ?rest1
    case hy1 => (intro w hSw; (try dsimp only at hSw); go_simp; try with_reducible rfl)
    try simp only [Act.put, List.setIfInBounds_toArray, List.set_cons_zero, List.set_cons_succ]
    refine wpAnyH_take (i := 1) (oi := _) (v := ?v2) (by simp only [List.getElem?_toArray, List.getElem?_cons_succ, List.getElem?_cons_zero]; rfl) (by kernel_rfl) (by kernel_rfl) (by kernel_rfl) (by exact fun _ _ _ h => h) (Or.inl ⟨by rfl, ?hy2⟩) (by assumption) ?rest2
    case hy2 => (intro w hSw; (try dsimp only at hSw); go_simp; try with_reducible rfl)
    try simp only [Act.put, List.setIfInBounds_toArray, List.set_cons_zero, List.set_cons_succ]
    refine wpAnyH_take (i := 2) (oi := _) (v := ?v3) (by simp only [List.getElem?_toArray, List.getElem?_cons_succ, List.getElem?_cons_zero]; rfl) (by kernel_rfl) (by kernel_rfl) (by kernel_rfl) (by exact fun _ _ _ h => h) (Or.inl ⟨by rfl, ?hy3⟩) (by assumption) ?rest3
    case hy3 => (intro w hSw; (try dsimp only at hSw); go_simp; try with_reducible rfl)
    try simp only [Act.put, List.setIfInBounds_toArray, List.set_cons_zero, List.set_cons_succ]
    refine wpAnyH_ready (rs := [3]) (by kernel_rfl) (by simp) ?_
    refine AllReadyH.cons (o := _) (by simp only [List.getElem?_toArray, List.getElem?_cons_succ, List.getElem?_cons_zero]; rfl) (fun K hK => ?_) AllReadyH.nil
    refine step_copy_run rfl (.tmp 15) (.tmp 17) 38 38 rfl _ _ _ rfl rfl (HCP2.out _ (Below.refl _ _).drew _) ?_
    refine hK.out _ _ (trivial) (fun hHeld => ?_)
    clear hK K
    try simp only [Act.put, List.setIfInBounds_toArray, List.set_cons_zero, List.set_cons_succ]
    refine wpAnyH_done (by kernel_rfl) ?_ _
    obtain ⟨W2, hW2⟩ : ∃ W, W = W1.drew.setRow (w.heap.size + 1) (a4 M4) := ⟨_, rfl⟩
    have hb2 : Below w.heap.size w W2 := by rw [hW2]; exact below_setRow HB1.out.drew (by omega) _
    have k4 : W2.heap[w.heap.size]? = some (.cells (a4 N4) 105) := by rw [hW2]; exact (setRow_there _ _ _ _ (by omega)).trans K2.out
    have k5 : W2.heap[w.heap.size + 1]? = some (.cells (a4 M4) 105) := by rw [hW2]; exact setRow_heap W1.drew _ _ _ _ _ K3.out
    rw [← hW2]
    have HB2 := Lib.hid hb2; have K4 := Lib.hid k4; have K5 := Lib.hid k5
    clear hb2 hW2 q3
    have c0 := four_at k4
    obtain ⟨c0, c1, c2, c3⟩ := c0
    have q4 : (8 : Int) ≤ n := by omega
    obtain ⟨o2, ho2⟩ : ∃ o2, (if c = 8 then some ⟨g, o, none⟩ else some ⟨g, o + 8, none⟩ : Option Addr) = some ⟨g, o2, none⟩ := by
      by_cases hc : c = 8
      · exact ⟨o, if_pos hc⟩
      · exact ⟨o + 8, if_neg hc⟩
    have HO2 := Lib.hid ho2
    clear k4 k5 ho2
    go_upto_region 7 with fail
    rw [HO2.out]
    go_wp2_with fail
    refine (fread_any N4 HN4L.out _).mono ?_
    rintro e W3 ⟨rfl, hb3⟩
    have HB3 := Lib.hid hb3
    clear hb3 c0 c1 c2 c3
    rw [HNUM.out]
    dsimp only
    by_cases hok : s ≤ 32768 ∧ s ≤ n - 8
    · have hP : ∀ W, Below w.heap.size w W → RdW W (.slice (some ⟨g, o2, none⟩) s (c - 8)) ((l.drop 8).take s) := fun W hb => by
        have h2 := RdW.subIf (HH.out.below hb) (by have := HN.out; omega) 8 (8 + s) (by omega) (by have := HN.out; omega)
        rw [HO2.out, show 8 + s - 8 = s by omega] at h2
        exact h2
      have hPl : ((l.drop 8).take s).length = s := by rw [List.length_take, List.length_drop, HN.out]; omega
      obtain ⟨P, hPP⟩ : ∃ P, (l.drop 8).take s = P := ⟨_, rfl⟩
      rw [hPP] at hP hPl
      have hcode := HCODE.out
      rw [hPP] at hcode
      have d1 : decide ((32768 : Int) < s) = false := by simp; omega
      have d2 : decide (n - 8 < s) = false := by simp; omega
      have q5 : (s : Int) ≤ (c - 8 : Nat) := by omega
      have q6 : (0 : Int) ≤ s := by omega
      have HP := Lib.hid hP; have HPL := Lib.hid hPl; have HC := Lib.hid hcode; have HPP := Lib.hid hPP; have HOK := Lib.hid hok
      clear hP hPl hcode hPP hok
      go_upto_region 11 with fail
      have hmk : ∀ W, Below w.heap.size w W → Calls Tryd.prog 50 #[.agg (a4 N4), .slice (some ⟨g, o2, none⟩) s (c - 8)] W fun e w' => e = .returned (.agg (a4 ((sumL (N4 ++ P)).take 4))) ∧ Below W.heap.size W w' := fun W hb => by
        have h1 := fmarked_any N4 HN4L.out (some ⟨g, o2, none⟩) (c - 8) P (by rw [HPL.out]; have := HOK.out; omega) W (HR.out.below hb) (by rw [HPL.out]; exact HP.out W hb)
        rw [HPL.out] at h1
        exact h1
      have hks : ∀ W, Below W2.heap.size W2 W → (W.cell? ⟨w.heap.size + 1, 0, none⟩ = some (.int .u8 (b4 M4 0 : Nat)) ∧ W.cell? ⟨w.heap.size + 1, 1, none⟩ = some (.int .u8 (b4 M4 1 : Nat)) ∧ W.cell? ⟨w.heap.size + 1, 2, none⟩ = some (.int .u8 (b4 M4 2 : Nat)) ∧ W.cell? ⟨w.heap.size + 1, 3, none⟩ = some (.int .u8 (b4 M4 3 : Nat))) ∧ W.cell? ⟨w.heap.size, 0, none⟩ = some (.int .u8 (b4 N4 0 : Nat)) ∧ W.cell? ⟨w.heap.size, 1, none⟩ = some (.int .u8 (b4 N4 1 : Nat)) ∧ W.cell? ⟨w.heap.size, 2, none⟩ = some (.int .u8 (b4 N4 2 : Nat)) ∧ W.cell? ⟨w.heap.size, 3, none⟩ = some (.int .u8 (b4 N4 3 : Nat)) := fun W hb =>
        ⟨four_at (blk_below K5.out hb), four_at (blk_below K4.out hb)⟩
      obtain ⟨X4, hX4⟩ : ∃ X, (sumL (N4 ++ P)).take 4 = X := ⟨_, rfl⟩
      have hXl : X4.length = 4 := by rw [← hX4, List.length_take, sum_len]; rfl
      rw [hX4] at hmk
      have hcode2 := HC.out
      rw [hX4] at hcode2
      have hq := fun W => eq_four W M4 X4 HM4L.out hXl
      have HMK := Lib.hid hmk; have KS := Lib.hid hks; have HC2 := Lib.hid hcode2
      clear hmk hks hX4 hXl hcode2 HC
      by_cases heq : M4 = X4
      · have hb : (M4 == X4) = true := by rw [heq]; simp
        rw [hb] at hq
        have HEQ := Lib.hid heq; clear heq hb
        refine wp_region_held_drew (S := (fun W => (W.cell? ⟨w.heap.size + 1, 0, none⟩ = some (.int .u8 (b4 M4 0 : Nat)) ∧ W.cell? ⟨w.heap.size + 1, 1, none⟩ = some (.int .u8 (b4 M4 1 : Nat)) ∧ W.cell? ⟨w.heap.size + 1, 2, none⟩ = some (.int .u8 (b4 M4 2 : Nat)) ∧ W.cell? ⟨w.heap.size + 1, 3, none⟩ = some (.int .u8 (b4 M4 3 : Nat))) ∧ W.cell? ⟨w.heap.size, 0, none⟩ = some (.int .u8 (b4 N4 0 : Nat)) ∧ W.cell? ⟨w.heap.size, 1, none⟩ = some (.int .u8 (b4 N4 1 : Nat)) ∧ W.cell? ⟨w.heap.size, 2, none⟩ = some (.int .u8 (b4 N4 2 : Nat)) ∧ W.cell? ⟨w.heap.size, 3, none⟩ = some (.int .u8 (b4 N4 3 : Nat)))) (by kernel_rfl) (KS.out _ HB3.out.drew) (fun hHeld => ?_)
        refine wpAnyH_take (i := 0) (oi := _) (v := ?v21) (by simp only [List.getElem?_toArray, List.getElem?_cons_succ, List.getElem?_cons_zero]; rfl) (by kernel_rfl) (by kernel_rfl) (by kernel_rfl) (by exact fun _ _ _ h => h) (Or.inl ⟨by rfl, ?hy21⟩) (by assumption) ?rest21
        case hy21 => (intro w hSw; (try dsimp only at hSw); go_simp; try with_reducible rfl)
        try simp only [Act.put, List.setIfInBounds_toArray, List.set_cons_zero, List.set_cons_succ]
        refine wpAnyH_take (i := 1) (oi := _) (v := ?v22) (by simp only [List.getElem?_toArray, List.getElem?_cons_succ, List.getElem?_cons_zero]; rfl) (by kernel_rfl) (by kernel_rfl) (by kernel_rfl) (by exact fun _ _ _ h => h) (Or.inl ⟨by rfl, ?hy22⟩) (by assumption) ?rest22
        case hy22 => (intro w hSw; (try dsimp only at hSw); go_simp; try with_reducible rfl)
        try simp only [Act.put, List.setIfInBounds_toArray, List.set_cons_zero, List.set_cons_succ]
        refine wpAnyH_take (i := 2) (oi := _) (v := ?v23) (by simp only [List.getElem?_toArray, List.getElem?_cons_succ, List.getElem?_cons_zero]; rfl) (by kernel_rfl) (by kernel_rfl) (by kernel_rfl) (by exact fun _ _ _ h => h) (Or.inl ⟨by rfl, ?hy23⟩) (by assumption) ?rest23
        case hy23 => (intro w hSw; (try dsimp only at hSw); go_simp; try with_reducible rfl)
        try simp only [Act.put, List.setIfInBounds_toArray, List.set_cons_zero, List.set_cons_succ]
        refine wpAnyH_ready (rs := [3]) (by kernel_rfl) (by simp) ?_
        refine AllReadyH.cons (o := _) (by simp only [List.getElem?_toArray, List.getElem?_cons_succ, List.getElem?_cons_zero]; rfl) (fun K hK => ?_) AllReadyH.nil
        go_simp
        refine (HMK.out _ (HB2.out.chain HB3.out.drew)).mono ?_
        rintro e w4 ⟨rfl, hb4⟩
        have HB4 := Lib.hid (HB3.out.drew.chain hb4); clear hb4
        dsimp only
        refine hK.out _ _ (KS.out _ HB4.out) (fun hHeld => ?_)
        clear hK K
        try simp only [Act.put, List.setIfInBounds_toArray, List.set_cons_zero, List.set_cons_succ]
        refine wpAnyH_ready (rs := [4]) (by kernel_rfl) (by simp) ?_
        refine AllReadyH.cons (o := _) (by simp only [List.getElem?_toArray, List.getElem?_cons_succ, List.getElem?_cons_zero]; rfl) (fun K hK => ?_) AllReadyH.nil
        go_simp
        refine hK.out _ _ (KS.out _ HB4.out) (fun hHeld => ?_)
        clear hK K
        try simp only [Act.put, List.setIfInBounds_toArray, List.set_cons_zero, List.set_cons_succ]
        refine wpAnyH_done (by kernel_rfl) ?_ _
        go_wp2
        go_ret2
        refine ⟨.inr ⟨s, _, ?_, rfl, ?_⟩, (HB2.out.chain HB4.out)⟩
        · rw [HC2.out, if_pos ⟨HOK.out.1, HOK.out.2, HEQ.out.symm⟩]
        · rw [HPP.out]; exact HP.out _ (Below.refl _ _)
      · have hb : (M4 == X4) = false := by simp [heq]
        rw [hb] at hq
        have HEQ := Lib.hid heq; clear heq hb
        refine wp_region_held_drew (S := (fun W => (W.cell? ⟨w.heap.size + 1, 0, none⟩ = some (.int .u8 (b4 M4 0 : Nat)) ∧ W.cell? ⟨w.heap.size + 1, 1, none⟩ = some (.int .u8 (b4 M4 1 : Nat)) ∧ W.cell? ⟨w.heap.size + 1, 2, none⟩ = some (.int .u8 (b4 M4 2 : Nat)) ∧ W.cell? ⟨w.heap.size + 1, 3, none⟩ = some (.int .u8 (b4 M4 3 : Nat))) ∧ W.cell? ⟨w.heap.size, 0, none⟩ = some (.int .u8 (b4 N4 0 : Nat)) ∧ W.cell? ⟨w.heap.size, 1, none⟩ = some (.int .u8 (b4 N4 1 : Nat)) ∧ W.cell? ⟨w.heap.size, 2, none⟩ = some (.int .u8 (b4 N4 2 : Nat)) ∧ W.cell? ⟨w.heap.size, 3, none⟩ = some (.int .u8 (b4 N4 3 : Nat)))) (by kernel_rfl) (KS.out _ HB3.out.drew) (fun hHeld => ?_)
        refine wpAnyH_take (i := 0) (oi := _) (v := ?v41) (by simp only [List.getElem?_toArray, List.getElem?_cons_succ, List.getElem?_cons_zero]; rfl) (by kernel_rfl) (by kernel_rfl) (by kernel_rfl) (by exact fun _ _ _ h => h) (Or.inl ⟨by rfl, ?hy41⟩) (by assumption) ?rest41
        case hy41 => (intro w hSw; (try dsimp only at hSw); go_simp; try with_reducible rfl)
        try simp only [Act.put, List.setIfInBounds_toArray, List.set_cons_zero, List.set_cons_succ]
        refine wpAnyH_take (i := 1) (oi := _) (v := ?v42) (by simp only [List.getElem?_toArray, List.getElem?_cons_succ, List.getElem?_cons_zero]; rfl) (by kernel_rfl) (by kernel_rfl) (by kernel_rfl) (by exact fun _ _ _ h => h) (Or.inl ⟨by rfl, ?hy42⟩) (by assumption) ?rest42
        case hy42 => (intro w hSw; (try dsimp only at hSw); go_simp; try with_reducible rfl)
        try simp only [Act.put, List.setIfInBounds_toArray, List.set_cons_zero, List.set_cons_succ]
        refine wpAnyH_take (i := 2) (oi := _) (v := ?v43) (by simp only [List.getElem?_toArray, List.getElem?_cons_succ, List.getElem?_cons_zero]; rfl) (by kernel_rfl) (by kernel_rfl) (by kernel_rfl) (by exact fun _ _ _ h => h) (Or.inl ⟨by rfl, ?hy43⟩) (by assumption) ?rest43
        case hy43 => (intro w hSw; (try dsimp only at hSw); go_simp; try with_reducible rfl)
        try simp only [Act.put, List.setIfInBounds_toArray, List.set_cons_zero, List.set_cons_succ]
        refine wpAnyH_ready (rs := [3]) (by kernel_rfl) (by simp) ?_
        refine AllReadyH.cons (o := _) (by simp only [List.getElem?_toArray, List.getElem?_cons_succ, List.getElem?_cons_zero]; rfl) (fun K hK => ?_) AllReadyH.nil
        go_simp
        refine (HMK.out _ (HB2.out.chain HB3.out.drew)).mono ?_
        rintro e w4 ⟨rfl, hb4⟩
        have HB4 := Lib.hid (HB3.out.drew.chain hb4); clear hb4
        dsimp only
        refine hK.out _ _ (KS.out _ HB4.out) (fun hHeld => ?_)
        clear hK K
        try simp only [Act.put, List.setIfInBounds_toArray, List.set_cons_zero, List.set_cons_succ]
        refine wpAnyH_ready (rs := [4]) (by kernel_rfl) (by simp) ?_
        refine AllReadyH.cons (o := _) (by simp only [List.getElem?_toArray, List.getElem?_cons_succ, List.getElem?_cons_zero]; rfl) (fun K hK => ?_) AllReadyH.nil
        go_simp
        refine hK.out _ _ (KS.out _ HB4.out) (fun hHeld => ?_)
        clear hK K
        try simp only [Act.put, List.setIfInBounds_toArray, List.set_cons_zero, List.set_cons_succ]
        refine wpAnyH_done (by kernel_rfl) ?_ _
        go_wp2
        go_ret2
        refine ⟨.inl ⟨?_, rfl⟩, (HB2.out.chain HB4.out)⟩
        rw [HC2.out, if_neg (fun k => HEQ.out k.2.2.symm)]
    · have hfn : firstL l = none := by rw [HCODE.out, if_neg (fun k => hok ⟨k.1, k.2.1⟩)]
      have HFN := Lib.hid hfn; clear hfn
      by_cases hb : 32768 < s
      · have d1 : decide ((32768 : Int) < s) = true := by simp; omega
        clear hok
        go_wp2
        go_ret2
        exact ⟨.inl ⟨HFN.out, rfl⟩, HB2.out.chain HB3.out⟩
      · have d1 : decide ((32768 : Int) < s) = false := by simp; omega
        have d2 : decide (n - 8 < s) = true := by simp; omega
        clear hok
        go_wp2
        go_ret2
        exact ⟨.inl ⟨HFN.out, rfl⟩, HB2.out.chain HB3.out⟩
set_option maxRecDepth 100000 in
set_option maxHeartbeats 1000000 in
theorem fclone_any (A : Option Addr) (n c : Nat) (l : List UInt8) (hl : l.length = n) (hn : n ≤ 100000) (w : World) (h : RdW w (.slice A n c) l) :
    Calls Tryd.prog 36 #[.slice A n c] w fun e w' => (∃ v, e = .returned v ∧ RdW w' v l ∧ ∀ g, v.ownBlock = some g → w.heap.size ≤ g) ∧ Below w.heap.size w w' := by
  have qT : ∀ (w : World) (a : Option Addr) (n c n' c' : Nat), (binOp .eql 38 (.slice a n c) (.slice none n' c')).run Tryd.prog w = .ok (.bool a.isNone) w := fun w a n c n' c' => Lib.run_eql_slice_nil w _ _ a n c n' c' Tryd.underlying38
  obtain ⟨i0, hi, hz0, hz1, hz2⟩ := info_parts Tryd.infoByte
  cases A with
  | none =>
    have hl0 : l = [] ∧ c = 0 := by
      obtain ⟨A', c', e, h1, h2, h3⟩ := h
      cases e
      rcases h3 with h3 | ⟨g, o, h3, _⟩
      · exact ⟨List.length_eq_zero_iff.1 h3.1, h3.2⟩
      · cases h3
    obtain ⟨rfl, rfl⟩ := hl0
    clear h
    go_enter Tryd.func36, Tryd.ntmps36
    go_wp2
    go_ret
    exact ⟨⟨_, rfl, (RdAt.nil w).weak, fun g hg => by cases hg⟩, Below.refl _ _⟩
  | some ad =>
    have hnw := fun W (hb : Below w.heap.size w W) => (h.below hb).news
    have hll : (cells l).length = n * 1 := by rw [Nat.mul_one, ← hl]; simp [cells]
    have HNW := Lib.hid hnw; have HLL := Lib.hid hll; have HL := Lib.hid hl
    clear hnw hll hl h
    go_enter Tryd.func36, Tryd.ntmps36
    go_wp2_with (at_builtin; refine wpList_append_opt rfl _ _ 38 rfl w.heap.size 5 i0 _ 1 1 Tryd.underlying38 hi hz0 hz1 hz2 rfl (by decide) _ _ _ rfl (own_empty w) (some ad) n c (cells l) rfl HLL.out ?_ (cells_one _) (by unfold maxLen; omega) (by omega) (by simp) ?_)
    · obtain ⟨A', c', e, h⟩ := HNW.out _ ((Below.refl w.heap.size w).alloc (Nat.le_refl _) (.cells #[] 5))
      injection e with e1 e2 e3
      rw [e1, e3, show n = l.length from e2]; exact h
    · intro v' w' hown hg _
      have hb := ((Below.refl w.heap.size w).alloc (Nat.le_refl _) _).grown hg (by simp) (fun j hj => (own_empty w).lt j hj |>.1)
      go_wp2
      go_ret
      have hbf : Buf w' w.heap.size v' l := Buf.cut hown (by have := HL.out; omega) (by simp)
      exact ⟨⟨v', rfl, hbf.rd.weak, fun g hg => (hbf.lt g hg).1⟩, hb⟩
theorem four_news {W : World} {q : Nat} {l : List UInt8} (hl : l.length = 4) (h : W.heap[q]? = some (.cells (a4 l) 105)) : ∀ j u, (cells l)[j]? = some u → W.cell? ((⟨q, 0, none⟩ : Addr).add j) = some u := fun j u hu => by
  rw [Addr.add_lit, Nat.zero_add, cell_here h]
  rw [← a4_cells l hl] at hu
  simpa using hu
set_option maxRecDepth 100000 in
set_option maxHeartbeats 1000000 in
theorem fframe_any (w : World) (A : Option Addr) (c : Nat) (l : List UInt8) (hl : l.length ≤ 100000) (hr : RoundsIn w) (h : RdW w (.slice A l.length c) l) :
    Calls Tryd.prog 30 #[.slice A l.length c] w fun e w' => (∃ v, e = .returned v ∧ RdAt w' v (frameL l) ∧ ∀ g, v.ownBlock = some g → w.heap.size ≤ g) ∧ Below w.heap.size w w' := by
  obtain ⟨hz, hi4⟩ := zero_of_info Tryd.zero4
  rw [a4_zero] at hz
  obtain ⟨i0, hi, hz0, hz1, hz2⟩ := info_parts Tryd.infoByte
  obtain ⟨n, hn⟩ : ∃ n, l.length = n := ⟨_, rfl⟩
  have hp := fun W => fprinted_any n (by omega) W
  have hmk := fun W (hb : Below w.heap.size w W) => fmarked_any (four n) (four_len n) A c l hl W (hr.below hb) (h.below hb)
  have hfr : cells (four n) ++ cells ((sumL (four n ++ l)).take 4) ++ cells l = cells (frameL l) := by
    unfold frameL markF; rw [hn, cells_app, cells_app]
  have hml : ((sumL (four n ++ l)).take 4).length = 4 := by rw [List.length_take, sum_len]; rfl
  have hfl : 8 + n = (frameL l).length := by rw [frameL_len, hn]
  have hnw := fun W (hb : Below w.heap.size w W) => (h.below hb).news
  rw [hn] at hmk
  have hll : (cells l).length = n * 1 := by rw [Nat.mul_one, ← hn]; simp [cells]
  obtain ⟨F4, hF4⟩ : ∃ F, four n = F := ⟨_, rfl⟩
  have hF4l : F4.length = 4 := by rw [← hF4]; rfl
  obtain ⟨M4, hM4⟩ : ∃ F, (sumL (four n ++ l)).take 4 = F := ⟨_, rfl⟩
  rw [hM4] at hml hmk hfr
  rw [hF4] at hp hmk hfr
  have hF4c : (cells F4).length = 4 * 1 := by simp [cells]; omega
  have hM4c : (cells M4).length = 4 * 1 := by simp [cells]; omega
  obtain ⟨CZ, hCZ⟩ : ∃ C, a4 [0, 0, 0, 0] = C := ⟨_, rfl⟩
  have hCZs : CZ.size = 4 := by rw [← hCZ]; rfl
  rw [hCZ] at hz
  have HZ := Lib.hid hz; have HI4 := Lib.hid hi4; have HP := Lib.hid hp; have HMK := Lib.hid hmk; have HFR := Lib.hid hfr; have HML := Lib.hid hml; have HFL := Lib.hid hfl; have HNW := Lib.hid hnw; have HLL := Lib.hid hll; have HF4 := Lib.hid hF4l; have HN := Lib.hid hn; have HL := Lib.hid hl; have HCZ := Lib.hid hCZs
  rw [hn]
  have hn32 : ((n : Int) % 4294967296) = n := by omega
  have hu32 : IntKind.u32.wrap (n : Int) = n := by rw [IntKind.wrap_u32]; omega
  have HIF : Hid ((Tryd.prog.info? 105).map (·.size) = some (a4 F4).size) := Lib.hid HI4.out
  have HIM : Hid ((Tryd.prog.info? 105).map (·.size) = some (a4 M4).size) := Lib.hid HI4.out
  have HCF : Hid (CZ.size = (a4 F4).size) := Lib.hid HCZ.out
  have HCM : Hid (CZ.size = (a4 M4).size) := Lib.hid HCZ.out
  have HF4C := Lib.hid hF4c; have HM4C := Lib.hid hM4c
  clear hz hi4 hp hmk hfr hml hfl hnw hll hF4l hn hl hCZs hCZ hM4 hF4 hF4c hM4c h hr
  go_enter Tryd.func30, Tryd.ntmps30
  go_wp2_with fail
  refine (HP.out _).mono ?_
  rintro e w1 ⟨rfl, hb1⟩
  have HB1 := Lib.hid hb1; clear hb1
  dsimp only
  go_upto_region 2 with ((with_reducible refine wpList_alloc_var 105 (.agg CZ) HZ.out ?_); simp only [show (Value.agg CZ).cells = CZ from rfl, Act.put, List.setIfInBounds_toArray, List.set_cons_zero, List.set_cons_succ]; refine wpList_store_new rfl 105 (.tmp 3) (.tmp 9) CZ (a4 F4) rfl rfl rfl HIF.out HCF.out (a4_one _) ?_)
  obtain ⟨R3, hR3⟩ : ∃ R, w1.heap.size = R := ⟨_, rfl⟩
  obtain ⟨W2, hW2⟩ : ∃ W, w1.alloc (.cells (a4 F4) 105) = W := ⟨_, rfl⟩
  have hb2 : Below w.heap.size w W2 := by rw [← hW2]; exact HB1.out.alloc HB1.out.size _
  have k2 : W2.heap[R3]? = some (.cells (a4 F4) 105) := by rw [← hW2, ← hR3]; exact heap_alloc_last w1 _
  have hle : w.heap.size ≤ R3 := by rw [← hR3]; exact HB1.out.size
  rw [hR3, hW2]
  obtain ⟨c0, c1, c2, c3⟩ := four_at k2
  have HB2 := Lib.hid hb2; have K2 := Lib.hid k2; have HLE := Lib.hid hle
  clear hb2 k2 hle hW2 hR3 HB1
  go_wp2_with fail
  refine (HMK.out _ HB2.out).mono ?_
  rintro e w3 ⟨rfl, hb3⟩
  have HB3 := Lib.hid (HB2.out.chain hb3); have K3 := Lib.hid (blk_below K2.out hb3); clear hb3 c0 c1 c2 c3
  dsimp only
  go_upto_region 3 with ((with_reducible refine wpList_alloc_var 105 (.agg CZ) HZ.out ?_); simp only [show (Value.agg CZ).cells = CZ from rfl, Act.put, List.setIfInBounds_toArray, List.set_cons_zero, List.set_cons_succ]; refine wpList_store_new rfl 105 (.tmp 4) (.tmp 12) CZ (a4 M4) rfl rfl rfl HIM.out HCM.out (a4_one _) ?_)
  obtain ⟨R4, hR4⟩ : ∃ R, w3.heap.size = R := ⟨_, rfl⟩
  obtain ⟨W4, hW4⟩ : ∃ W, w3.alloc (.cells (a4 M4) 105) = W := ⟨_, rfl⟩
  have hb4 : Below w.heap.size w W4 := by rw [← hW4]; exact HB3.out.alloc HB3.out.size _
  have k4 : W4.heap[R4]? = some (.cells (a4 M4) 105) := by rw [← hW4, ← hR4]; exact heap_alloc_last w3 _
  have k3 : W4.heap[R3]? = some (.cells (a4 F4) 105) := by rw [← hW4]; exact alloc_block K3.out
  rw [hR4, hW4]
  obtain ⟨W5, hmk5, hown5, hg5⟩ := run_make_own (P := Tryd.prog) W4 w.heap.size 38 5 i0 (.int .u8 0) 1 Tryd.underlying38 hi hz0 hz1 .i64 .i64 (8 + n) (by rw [hz2]; have := HL.out; have := HN.out; omega) (by have := HL.out; have := HN.out; unfold maxLen; omega) hb4.size
  rw [show ((8 + n : Nat) : Int) = 8 + (n : Int) by omega] at hmk5
  obtain ⟨V5, hV5⟩ : ∃ V, Value.slice (some ⟨W4.heap.size, 0, none⟩) 0 (8 + n) = V := ⟨_, rfl⟩
  rw [hV5] at hmk5 hown5
  have HB5 := Lib.hid (hb4.grown hg5 hb4.size (fun j hj => by cases hj)); have HO5 := Lib.hid hown5
  have K5 := Lib.hid (hg5.block _ (Array.getElem?_eq_some_iff.1 k3).1 (by simp) |>.trans k3)
  have K6 := Lib.hid (hg5.block _ (Array.getElem?_eq_some_iff.1 k4).1 (by simp) |>.trans k4)
  clear hb4 k4 k3 hW4 hR4 hown5 hg5 hV5 HB3 K3 HB2 K2
  go_wp2_with (at_builtin; refine wpList_append_opt rfl _ _ 38 rfl w.heap.size 5 i0 _ 1 1 Tryd.underlying38 hi hz0 hz1 hz2 rfl (by decide) _ _ _ rfl HO5.out (some ⟨R3, 0, none⟩) 4 4 (cells F4) rfl HF4C.out (.inr ⟨_, rfl, four_news HF4.out K5.out⟩) (cells_one _) (by have := HL.out; have := HN.out; unfold maxLen; omega) (by have := HL.out; have := HN.out; omega) (HB5.out.size) ?_)
  intro v6 w6 own6 g6 _
  have HB6 := Lib.hid (HB5.out.grown g6 HB5.out.size (fun j hj => (HO5.out.lt j hj).1))
  have K7 := Lib.hid (grown_block g6 K6.out (own_not HO5.out K6.out (by decide)))
  have HO6 := Lib.hid own6
  clear own6 g6
  go_wp2_with (at_builtin; refine wpList_append_opt rfl _ _ 38 rfl w.heap.size 5 i0 _ 1 1 Tryd.underlying38 hi hz0 hz1 hz2 rfl (by decide) _ _ _ rfl HO6.out (some ⟨R4, 0, none⟩) 4 4 (cells M4) rfl HM4C.out (.inr ⟨_, rfl, four_news HML.out K7.out⟩) (cells_one _) (by have := HL.out; have := HN.out; unfold maxLen; omega) (by have := HL.out; have := HN.out; omega) (HB6.out.size) ?_)
  intro v7 w7 own7 g7 _
  have HB7 := Lib.hid (HB6.out.grown g7 HB6.out.size (fun j hj => (HO6.out.lt j hj).1))
  have HO7 := Lib.hid own7
  clear own7 g7
  obtain ⟨A', c', e, hnw⟩ := HNW.out _ HB7.out
  injection e with e1 _ e3
  rw [← e1, ← e3, HN.out] at hnw
  have HNW8 := Lib.hid hnw
  clear hnw e1 e3
  go_wp2_with (at_builtin; refine wpList_append_opt rfl _ _ 38 rfl w.heap.size 5 i0 _ 1 1 Tryd.underlying38 hi hz0 hz1 hz2 rfl (by decide) _ _ _ rfl HO7.out (A) n c (cells l) rfl HLL.out (HNW8.out) (cells_one _) (by have := HL.out; have := HN.out; unfold maxLen; omega) (by have := HL.out; have := HN.out; omega) (HB7.out.size) ?_)
  intro v8 w8 own8 g8 _
  have HB8 := HB7.out.grown g8 HB7.out.size (fun j hj => (HO7.out.lt j hj).1)
  go_wp2
  go_ret
  have hbf : Buf w8 w.heap.size v8 (frameL l) := Buf.cut own8 (by have := HFL.out; omega) (by rw [← HFR.out, List.append_assoc])
  exact ⟨⟨v8, rfl, hbf.rd, fun g hg => (hbf.lt g hg).1⟩, HB8⟩
/-- what a slice reads from a place on -/
theorem RdW.from {W : World} {A : Option Addr} {m c : Nat} {b : List UInt8} (hm : b.length = m) (h : RdW W (.slice A m c) b) (k : Nat) (hk : k ≤ m) : RdW W (.slice (if c = k then A else A.map (·.add (k * 1))) (m - k) (c - k)) (b.drop k) := by
  subst hm
  obtain ⟨A', c', e, h1, h2, h3⟩ := h
  cases e
  have hl : (b.drop k).length = b.length - k := List.length_drop
  by_cases hc : c = k
  · rw [if_pos hc]
    exact ⟨_, _, by rw [hl], by omega, by omega, .inl ⟨by omega, by omega⟩⟩
  · rw [if_neg hc]
    rcases h3 with h3 | ⟨g, o, rfl, hg, h3⟩
    · omega
    · refine ⟨_, _, by rw [hl], by omega, by omega, .inr ⟨g, o + k, by simp [Addr.add_lit], hg, fun j u hu => ?_⟩⟩
      rw [Addr.add_lit]
      have := h3 (k + j) u (by
        unfold cells at hu ⊢
        rw [List.getElem?_map, List.getElem?_drop] at hu
        rw [List.getElem?_map]; exact hu)
      rw [Addr.add_lit] at this
      rw [Nat.add_assoc]; exact this
theorem Tryd.infoBs2 : (Tryd.prog.info? 38).map (fun i => (i.zero, i.size, i.bytes)) = some (some (.slice none 0 0), 1, 24) := by kernel_rfl
set_option maxRecDepth 100000 in
set_option maxHeartbeats 4000000 in
theorem fsplit_any (w : World) (A : Option Addr) (c : Nat) (b : List UInt8) (hl : b.length ≤ 100000) (hr : RoundsIn w) (h : RdW w (.slice A b.length c) b) :
    Calls Tryd.prog 20 #[.slice A b.length c] w fun e w' => (∃ v, e = .returned (.tuple #[v, .int .i64 ((splitL b).2 : Nat)]) ∧ RdB w' v (splitL b).1) ∧ Below w.heap.size w w' := by
  obtain ⟨i0, hi, hz0, hz1, hz2⟩ := info_parts Tryd.infoBs2
  obtain ⟨ib, hib, _, hzb, _⟩ := info_parts Tryd.infoByte
  obtain ⟨m, hm⟩ : ∃ m, b.length = m := ⟨_, rfl⟩
  have hcm : m ≤ c ∧ c ≤ 9223372036854775807 := by
    obtain ⟨A', c', e, h1, h2, h3⟩ := h
    cases e
    exact ⟨by omega, h2⟩
  have hsl : ∀ (k : Nat) (W : World), k ≤ m → (Instr.slice 38 (.slice A m c) (some (.int .i64 (k : Int))) none none).run Tryd.prog W = .ok (.slice (if c = k then A else A.map (·.add (k * 1))) (m - k) (c - k)) W := fun k W hk => by
    have hs : (sizeOf 5).run Tryd.prog W = .ok 1 W := by simp [sizeOf, typeInfo, hib, hzb]
    have he : Tryd.prog.elem 38 = 5 := by kernel_rfl
    rw [run_slice_l W 38 A m c (by rw [he]; exact Tryd.underlying38) .i64 k (by omega) (by omega), he, hs]
    simp [sliced]
  have hfm := fun (k : Nat) (W : World) (hk : k ≤ m) (hb : Below w.heap.size w W) => RdW.from hm (by rw [← hm]; exact h.below hb : RdW W (.slice A m c) b) k hk
  have HFM := Lib.hid hfm; have HSL := Lib.hid hsl; have HM := Lib.hid hm; have HL := Lib.hid hl; have HR := Lib.hid hr
  rw [hm]
  clear hfm hsl hm hl hr h
  go_enter Tryd.func20, Tryd.ntmps20
  go_wp2
  go_loopw [4, 5] (fun out i W => ∃ (k : Nat) (pre : List (List UInt8)) (vs : List Value), k ≤ m ∧ i = .int .i64 k ∧ Hid (BRow W w.heap.size out vs pre ∧ pre.length ≤ k ∧ splitL b = (pre ++ (splitL (b.drop k)).1, k + (splitL (b.drop k)).2) ∧ Below w.heap.size w W) ∧ Hid (∀ u ∈ vs, ∀ g', rdBlock u = some g' → out.ownBlock ≠ some g' ∧ g' < W.heap.size)) (fun _ i _ => m - (intOf i).toNat)
  case atStart => exact ⟨0, [], [], Nat.zero_le _, rfl, Lib.hid ⟨⟨World.ownsRow_nil _ _ _ _, rfl, by simp, fun k l hk => by simp at hk⟩, Nat.le_refl _, by simp, Below.refl _ _⟩, Lib.hid (fun u hu => by cases hu)⟩
  case round =>
    obtain ⟨k, pre, vs, hk, rfl, hT, hV⟩ := hrel
    obtain ⟨RA, hRA⟩ : ∃ RA, (if c = k then A else A.map (·.add (k * 1))) = RA := ⟨_, rfl⟩
    have hs2 := fun W => HSL.out k W hk
    have hf2 := HFM.out k wr hk hT.out.2.2.2
    rw [hRA] at hs2 hf2
    obtain ⟨D, hD⟩ : ∃ D, b.drop k = D := ⟨_, rfl⟩
    have hDl : D.length = m - k := by rw [← hD, List.length_drop, HM.out]
    rw [hD] at hf2
    have hfc := ffirst_any RA (c - k) D (by rw [hDl]; have := HL.out; have := HM.out; omega) wr (HR.out.below hT.out.2.2.2) (by rw [hDl]; exact hf2)
    rw [hDl] at hfc
    have HFC := Lib.hid hfc; have HD := Lib.hid hD; have HDL := Lib.hid hDl
    clear hfc hf2 hRA hD hDl
    go_wp2_with fail
    refine HFC.out.mono ?_
    rintro e w1 ⟨hF, hb1⟩
    have HB1 := Lib.hid hb1
    clear hb1
    rcases hF with ⟨hfn, rfl⟩ | ⟨s, PA, hfs, rfl, hPr⟩
    · have hsn : splitL b = (pre, k) := by rw [hT.out.2.2.1, HD.out, splitL_none hfn]; simp
      have HSN := Lib.hid hsn; clear hsn hfn
      dsimp only
      go_wp2
      go_ret2
      rw [HSN.out]
      exact ⟨⟨_, rfl, (hT.out.1.below HB1.out).rd⟩, hT.out.2.2.2.chain HB1.out⟩
    · have hs8 := firstL_some hfs
      obtain ⟨P, hP⟩ : ∃ P, (D.drop 8).take s = P := ⟨_, rfl⟩
      have hPl : P.length = s := by rw [← hP, List.length_take, List.length_drop]; omega
      have hsp2 : splitL b = ((pre ++ [P]) ++ (splitL (b.drop (k + 8 + s))).1, k + 8 + s + (splitL (b.drop (k + 8 + s))).2) := by
        rw [hT.out.2.2.1, HD.out, splitL_some hfs, hP, ← HD.out, List.drop_drop]
        simp only [List.append_assoc, List.cons_append, List.nil_append]
        rw [show k + (8 + s) = k + 8 + s by omega, show k + (8 + s + (splitL (b.drop (k + 8 + s))).2) = k + 8 + s + (splitL (b.drop (k + 8 + s))).2 by omega]
      rw [hP] at hPr
      have hkm : k + 8 + s ≤ m := by have := hs8.1; rw [HDL.out] at this; omega
      have hcl := fclone_any PA s (c - k - 8) P hPl (by have := HL.out; have := HM.out; omega) w1 (hPr.below HB1.out)
      have HCL := Lib.hid hcl; have HSP2 := Lib.hid hsp2; have HPL := Lib.hid hPl
      clear hcl hsp2 hPl hs8 hfs hP hPr
      dsimp only
      go_wp2_with fail
      refine HCL.out.mono ?_
      rintro e w2 ⟨⟨v2, rfl, hv2, hnew⟩, hb2⟩
      have HB2 := Lib.hid (HB1.out.chain hb2)
      obtain ⟨A2, c2, rfl⟩ := rdw_form hv2
      rw [HPL.out] at hv2 hnew ⊢
      have hown := own_below hT.out.1.1 HB2.out
      have hsz : w.heap.size ≤ w2.heap.size := Nat.le_trans hT.out.2.2.2.size HB2.out.size
      have hprl := hT.out.2.1
      have hm1 := HL.out
      have hm2 := HM.out
      have HV2 := Lib.hid hv2; have HNEW := Lib.hid hnew; have HS1 := Lib.hid hb2.size
      clear hv2 hnew hb2
      dsimp only
      go_wp2_with (at_builtin; refine wpList_append_opt rfl _ _ 60 rfl w.heap.size 38 i0 _ 1 24 Tryd.underlying60 hi hz0 hz1 hz2 rfl (by decide) _ _ _ rfl (World.ownsRow.alloc hown _) (some ⟨_, 0, none⟩) 1 1 [.slice A2 s c2] rfl rfl (.inr ⟨_, rfl, new_cells _ #[_] _⟩) (by intro u hu; simp at hu; subst hu; rfl) (by unfold maxLen; omega) (by omega) (by simp; omega) ?_)
      intro v' w3 hown' hg' hat
      have hb3 : Below w.heap.size w w3 := ((hT.out.2.2.2.chain HB2.out).alloc hsz _).grown hg' (by simp; omega) (fun j hj => (hown.lt j hj).1)
      have hfar : ∀ g', u4.ownBlock ≠ some g' → g' < w2.heap.size → v'.ownBlock ≠ some g' ∧ w3.heap[g']? = w2.heap[g']? ∧ g' < w3.heap.size := fun g' h1 h2 => by
        refine ⟨fun e => ?_, (hg'.block g' (by simp; omega) (fun e => h1 e.symm)).trans (Below.heap_alloc _ _ _ h2), ?_⟩
        · rcases hat with h | h
          · exact h1 (h ▸ e)
          · rw [h] at e; injection e with e; omega
        · have := hg'.size; simp at this; omega
      have hold : ∀ u ∈ vs, ∀ g', rdBlock u = some g' → u4.ownBlock ≠ some g' ∧ g' < w2.heap.size := fun u hu g' hg => ⟨(hV.out u hu g' hg).1, Nat.lt_of_lt_of_le (hV.out u hu g' hg).2 HB2.out.size⟩
      have hnw : ∀ g', rdBlock (.slice A2 s c2) = some g' → u4.ownBlock ≠ some g' ∧ g' < w2.heap.size := fun g' hg => ⟨fun e => by
        have h1 := (hT.out.1.1.lt g' e).2
        have h2 := HNEW.out g' (rdBlock_own hg)
        have h3 := HB1.out.size
        omega, HV2.out.lt hg⟩
      have hk3 : ∀ u l, (∀ g', rdBlock u = some g' → u4.ownBlock ≠ some g' ∧ g' < w2.heap.size) → RdW w2 u l → RdW w3 u l := fun u l hu hr => hr.keep (by have := hg'.size; simp at this; omega) fun g' hg => (hfar g' (hu g' hg).1 (hu g' hg).2).2.1
      have HB3 := Lib.hid hb3; have HFAR := Lib.hid hfar; have HOLD := Lib.hid hold; have HNW := Lib.hid hnw; have HK3 := Lib.hid hk3; have HOWN := Lib.hid hown'
      clear hb3 hfar hold hnw hk3 hown' hown hat hg'
      have hw8 : IntKind.i64.wrap ((k : Int) + (8 + (s : Int))) = (k : Int) + (8 + (s : Int)) := wraps_i64 _ (by omega) (by omega)
      go_wp2
      go_roundw
      case rel =>
        refine ⟨k + 8 + s, pre ++ [P], vs ++ [.slice A2 s c2], hkm, by go_num, Lib.hid ⟨⟨?_, by rw [List.length_append, List.length_append, hT.out.1.2.1]; rfl, fun u hu => ?_, fun j l hj => ?_⟩, by rw [List.length_append]; show pre.length + 1 ≤ _; omega, HSP2.out, HB3.out⟩, Lib.hid fun u hu g' hg => ?_⟩
        · rw [List.length_append]; exact HOWN.out
        · rcases List.mem_append.1 hu with hu | hu
          · exact hT.out.1.2.2.1 u hu
          · rw [List.mem_singleton] at hu; subst hu; rfl
        · by_cases hjp : j < pre.length
          · rw [List.getElem?_append_left hjp] at hj
            obtain ⟨u, hu, hr⟩ := hT.out.1.2.2.2 j l hj
            exact ⟨u, by rw [List.getElem?_append_left (by rw [hT.out.1.2.1]; exact hjp)]; exact hu, HK3.out u l (HOLD.out u (List.mem_of_getElem? hu)) (hr.below HB2.out)⟩
          · rw [List.getElem?_append_right (by omega)] at hj
            obtain ⟨h0, rfl⟩ : j - pre.length = 0 ∧ P = l := by
              rcases hz : j - pre.length with _ | q
              · rw [hz] at hj; exact ⟨rfl, by simpa using hj⟩
              · rw [hz] at hj; simp at hj
            exact ⟨.slice A2 s c2, by rw [List.getElem?_append_right (by rw [hT.out.1.2.1]; omega), hT.out.1.2.1, h0]; rfl, HK3.out _ _ HNW.out HV2.out⟩
        · rcases List.mem_append.1 hu with hu | hu
          · have := HFAR.out g' (HOLD.out u hu g' hg).1 (HOLD.out u hu g' hg).2
            exact ⟨this.1, this.2.2⟩
          · rw [List.mem_singleton] at hu; subst hu
            have := HFAR.out g' (HNW.out g' hg).1 (HNW.out g' hg).2
            exact ⟨this.1, this.2.2⟩
      case measure => simp [intOf]; omega
theorem codeFrame : CodeFrame := ⟨fframe_any, fsplit_any⟩
end Go.Proofs.YtkbjpgfdmkmbmaaDoor
