/- Texts merged by program, in build order: SumBase, QTail, Sum4, SumEight, Sum6, Sum5, Sum7, Sum8, RefSum, FrameRef, HeldMore, FrameRefS, HashTurn, HashSpread. -/
import Derived.Test.YtkbjpgfdmkmbmaaDoorG02
import Derived.BigRegion
import Derived.Deep.Cut
import Derived.StillTail
import Derived.BigQuiet
import Derived.Deep.DrawnRows
import Derived.Lib.AppendStr
import Derived.Deep.RegionLaw
import Derived.Deep.RegionWith
import Derived.Deep.RegionHeld3
set_option linter.unusedVariables false
set_option linter.unusedSimpArgs false
namespace Go.Proofs.YtkbjpgfdmkmbmaaDoor
open Go.RowKit

/-- eight words as cells -/
def h0Cells (s : S8) : Array Value := #[.int .u32 (s.a.toNat : Int), .int .u32 (s.b.toNat : Int), .int .u32 (s.c.toNat : Int), .int .u32 (s.d.toNat : Int), .int .u32 (s.e.toNat : Int), .int .u32 (s.f.toNat : Int), .int .u32 (s.g.toNat : Int), .int .u32 (s.h.toNat : Int)]
def vlen : Value → Nat
  | .slice _ n _ => n
  | _ => 0
theorem vlen_mbuf {w : World} {B : Nat} {v : Value} {l : List UInt8} {g cap : Nat} (h : MBuf w B v l g cap) : vlen v = l.length := by rw [h.val]; rfl
theorem grown_below {B : Nat} {X w w' : World} {g : Nat} (h : Below B X w) (hB : B ≤ w.heap.size) (hg : w.grownBy w' (some g)) (hBg : B ≤ g) : Below B X w' := h.grown hg hB (fun j hj => by injection hj with hj; omega)
def kCells : Array Value := (kL.map fun x => Value.int .u32 (x.toNat : Int)).toArray
theorem kCells_at (i : Nat) (h : i < 64) : kCells[i]? = some (.int .u32 ((kAt i).toNat : Int)) := by
  have hl : i < kL.length := h
  unfold kCells kAt
  simp [List.getD, hl]
theorem kCells_size : kCells.size = 64 := by kernel_rfl
theorem kCells_one : kCells.all (·.oneCell') = true := by kernel_rfl
theorem Tryd.zero64 : (Tryd.prog.info? 143).map (fun i => (i.zero, i.size)) = some (some (.agg (Array.replicate 64 (.int .u32 0))), 64) := by kernel_rfl
/-- the schedule's array, so far -/
def wC (b : List UInt8) (p k : Nat) : Array Value := ((schedL b p k).map fun x => Value.int .u32 (x.toNat : Int)).toArray ++ Array.replicate (64 - k) (.int .u32 0)
theorem wC_zero (b : List UInt8) (p : Nat) : wC b p 0 = Array.replicate 64 (.int .u32 0) := by simp [wC, schedL]
theorem wC_size (b : List UInt8) (p k : Nat) (h : k ≤ 64) : (wC b p k).size = 64 := by simp [wC, schedL_len]; omega
theorem wC_at (b : List UInt8) (p k j : Nat) (h : j < k) : (wC b p k)[j]? = some (.int .u32 ((schedW b p j).toNat : Int)) := by
  have hl : j < (schedL b p k).length := by rw [schedL_len]; exact h
  unfold wC
  rw [Array.getElem?_append_left (by simpa using hl), ← schedL_at b p k j h]
  simp [List.getD, hl]
theorem wC_here (b : List UInt8) (p k : Nat) (h : k < 64) : (wC b p k)[k]? = some (.int .u32 0) := by
  unfold wC
  have e : k - ((schedL b p k).map fun x => Value.int .u32 (x.toNat : Int)).toArray.size = 0 := by simp [schedL_len]
  rw [Array.getElem?_append_right (by simp [schedL_len]), e, Array.getElem?_replicate, if_pos (by omega)]
theorem wC_next (b : List UInt8) (p k : Nat) (h : k < 64) : (wC b p k).setIfInBounds k (.int .u32 ((schedW b p k).toNat : Int)) = wC b p (k + 1) := by
  apply Array.ext_getElem?
  intro j
  rw [Array.getElem?_setIfInBounds, wC_size b p k (by omega)]
  by_cases hj : k = j
  · subst hj
    rw [if_pos rfl, if_pos h, wC_at b p (k + 1) k (by omega)]
  · rw [if_neg hj]
    by_cases hjk : j < k
    · rw [wC_at b p k j hjk, wC_at b p (k + 1) j (by omega)]
    · unfold wC
      rw [Array.getElem?_append_right (by simp [schedL_len]; omega), Array.getElem?_append_right (by simp [schedL_len]; omega)]
      simp only [Array.getElem?_replicate, List.size_toArray, List.length_map, schedL_len]
      by_cases h64 : j < 64
      · rw [if_pos (by omega), if_pos (by omega)]
      · rw [if_neg (by omega), if_neg (by omega)]
theorem wC_one (b : List UInt8) (p k : Nat) : ∀ v ∈ (wC b p k).toList, v.oneCell' = true := by
  intro v hv
  simp only [wC, Array.toList_append, List.mem_append, Array.toList_replicate] at hv
  rcases hv with h | h
  · obtain ⟨_, _, rfl⟩ := List.mem_map.1 h; rfl
  · obtain ⟨_, rfl⟩ := List.mem_replicate.1 h; rfl
theorem word_nat (b : List UInt8) (q : Nat) (h : q + 3 < b.length) : ((wordL b q).toNat : Int) = (b[q].toNat : Int) * 16777216 + (b[q + 1].toNat : Int) * 65536 + (b[q + 2].toNat : Int) * 256 + (b[q + 3].toNat : Int) := by
  have g : ∀ j (hj : j < b.length), b.getD j 0 = b[j] := fun j hj => by simp [List.getD, hj]
  unfold wordL
  rw [g q (by omega), g (q + 1) (by omega), g (q + 2) (by omega), g (q + 3) (by omega), UInt32.toNat_ofNat']
  have h0 := b[q].toNat_lt
  have h1 := b[q + 1].toNat_lt
  have h2 := b[q + 2].toNat_lt
  have h3 := b[q + 3].toNat_lt
  omega
theorem len_byte (n c : Nat) : (8 * (n : Int) / 2 ^ (8 * (7 - c)) % 256) = ((UInt8.ofNat (8 * n / 256 ^ (7 - c))).toNat : Int) := by
  have e : (256 : Nat) ^ (7 - c) = 2 ^ (8 * (7 - c)) := by rw [Nat.pow_mul]
  rw [e, UInt8.toNat_ofNat']
  have h : (8 * (n : Int) / 2 ^ (8 * (7 - c))) = ((8 * n / 2 ^ (8 * (7 - c)) : Nat) : Int) := by
    rw [Int.natCast_ediv, Int.natCast_mul, Int.natCast_pow]; rfl
  rw [h]; omega
theorem lenL_next (n c : Nat) (h : c < 8) : (lenL n).take (c + 1) = (lenL n).take c ++ [UInt8.ofNat (8 * n / 256 ^ (7 - c))] := by
  have hl : c < (lenL n).length := h
  rw [List.take_succ_eq_append_getElem hl]
  simp [lenL]
theorem arr_at (w : World) (C : Array Value) (t : TypeId) (k : Nat) (v : Value) (h : C[k]? = some v) : (w.alloc (.cells C t)).cell? ⟨w.heap.size, k, none⟩ = some v := by
  rw [← h]
  show (match (w.alloc _).heap[w.heap.size]? with | some (.cells cs _ _) => cs[k]? | _ => none) = _
  rw [heap_alloc_last]
theorem old_at (w : World) (o : Obj) (g k : Nat) (h : g < w.heap.size) : (w.alloc o).cell? ⟨g, k, none⟩ = w.cell? ⟨g, k, none⟩ := ((Below.refl w.heap.size w).alloc (Nat.le_refl _) o).cell (p := ⟨g, k, none⟩) h
end Go.Proofs.YtkbjpgfdmkmbmaaDoor
namespace Go.Proofs.YtkbjpgfdmkmbmaaDoor

theorem still_of_quiet {P : Program} {ops : Array Oper} {w1 : World} {Q : Act → Prop} : ∀ (l : List Oper) (a : Act), wpQuiet P ops (fun w => w = w1) Q l a → wpStill P ops w1 Q l a
  | [], _, h => h
  | o :: rest, a, h => by
    unfold wpStill
    unfold wpQuiet at h
    split at h
    · rename_i hw
      rw [if_pos hw]
      obtain ⟨v, hv, hn⟩ := h
      have h1 := hv w1 rfl
      unfold Oper.quietAt at h1
      unfold Oper.still
      generalize (execOp a.eval o).run P w1 = r at *
      cases r with
      | halt x w' => exact h1.elim
      | ok n w' =>
        cases n <;> simp only [Oper.quietUpon, Oper.stillUpon] at h1 ⊢
        case value u =>
          obtain ⟨e1, e2⟩ := h1
          exact ⟨e1, by rw [e2]; exact still_of_quiet rest _ hn⟩
        case skip =>
          obtain ⟨e1, e2⟩ := h1
          exact ⟨e1, by rw [← e2]; exact still_of_quiet rest _ hn⟩
        case enter f args =>
          obtain ⟨e1, hc⟩ := h1
          exact ⟨e1, v, hc, still_of_quiet rest _ hn⟩
        all_goals exact h1.elim
    · rename_i hw
      rw [if_neg hw]
      exact still_of_quiet rest _ h
theorem wp_region_quiet_tail {P : Program} {id : Nat} {Q : Exit → Act → World → Prop} {a : Act} {w : World} {l : List Oper} (n : Nat) (hm : P.follows .mixedOrders = true) (hB : Region.lexTailB .any l.toArray n = true)
    (h : wpQuiet P l.toArray (fun w' => w' = w.drew) (fun a' => wpList P l.toArray Q (l.drop n) a' w.drew) (l.take n) a) : (Code.region id l.toArray true).wp P Q a w :=
  wp_region_still_tail n hm hB (still_of_quiet _ _ h)
end Go.Proofs.YtkbjpgfdmkmbmaaDoor
namespace Go.Proofs.YtkbjpgfdmkmbmaaDoor
open Go.RowKit

theorem sched_int (x16 x15 x7 x2 : UInt32) : ((x16.toNat : Int) + bits .xor .u32 (bits .xor .u32 ((rotr x15 7).toNat : Int) ((rotr x15 18).toNat : Int)) ((x15.toNat : Int) / 8) + (x7.toNat : Int) + bits .xor .u32 (bits .xor .u32 ((rotr x2 17).toNat : Int) ((rotr x2 19).toNat : Int)) ((x2.toNat : Int) / 1024)) % 4294967296 =
    ((addW (addW (addW x16 (lo0 x15)) x7) (lo1 x2)).toNat : Int) := by
  have s3 : (x15.toNat : Int) / 8 = ((natW (x15.toNat / 8)).toNat : Int) := by
    have := x15.toNat_lt
    rw [natW_nat _ (by omega)]; omega
  have s10 : (x2.toNat : Int) / 1024 = ((natW (x2.toNat / 1024)).toNat : Int) := by
    have := x2.toNat_lt
    rw [natW_nat _ (by omega)]; omega
  rw [s3, s10, w_xor, w_xor, w_xor, w_xor, ← w_add, ← w_add, ← w_add]
  show ((x16.toNat : Int) + ((lo0 x15).toNat : Int) + (x7.toNat : Int) + ((lo1 x2).toNat : Int)) % 4294967296 = _
  omega
end Go.Proofs.YtkbjpgfdmkmbmaaDoor
namespace Go.Proofs.YtkbjpgfdmkmbmaaDoor
open Go.RowKit

def S8.get (s : S8) : Nat → UInt32
  | 0 => s.a
  | 1 => s.b
  | 2 => s.c
  | 3 => s.d
  | 4 => s.e
  | 5 => s.f
  | 6 => s.g
  | _ => s.h
/-- an array of eight words -/
def eightC (f : Nat → UInt32) : Array Value := #[.int .u32 ((f 0).toNat : Int), .int .u32 ((f 1).toNat : Int), .int .u32 ((f 2).toNat : Int), .int .u32 ((f 3).toNat : Int), .int .u32 ((f 4).toNat : Int), .int .u32 ((f 5).toNat : Int), .int .u32 ((f 6).toNat : Int), .int .u32 ((f 7).toNat : Int)]
theorem eightC_at (f : Nat → UInt32) (i : Nat) (h : i < 8) : (eightC f)[i]? = some (.int .u32 ((f i).toNat : Int)) := by
  match i, h with
  | 0, _ => rfl
  | 1, _ => rfl
  | 2, _ => rfl
  | 3, _ => rfl
  | 4, _ => rfl
  | 5, _ => rfl
  | 6, _ => rfl
  | 7, _ => rfl
theorem eightC_set (f : Nat → UInt32) (i : Nat) (h : i < 8) (x : UInt32) : (eightC f).setIfInBounds i (.int .u32 (x.toNat : Int)) = eightC (fun j => if j = i then x else f j) := by
  match i, h with
  | 0, _ => rfl
  | 1, _ => rfl
  | 2, _ => rfl
  | 3, _ => rfl
  | 4, _ => rfl
  | 5, _ => rfl
  | 6, _ => rfl
  | 7, _ => rfl
theorem eightC_congr {f g : Nat → UInt32} (h : ∀ i, i < 8 → f i = g i) : eightC f = eightC g := by
  unfold eightC
  rw [h 0 (by decide), h 1 (by decide), h 2 (by decide), h 3 (by decide), h 4 (by decide), h 5 (by decide), h 6 (by decide), h 7 (by decide)]
theorem eightC_s (s : S8) : h0Cells s = eightC s.get := rfl
/-- shifted by one, down to j -/
def shiftF (s : S8) (j i : Nat) : UInt32 := if j < i then s.get (i - 1) else s.get i
theorem shiftF_next (s : S8) (j : Nat) (h : 0 < j) (h7 : j ≤ 7) : (eightC (shiftF s j)).setIfInBounds j (.int .u32 ((s.get (j - 1)).toNat : Int)) = eightC (shiftF s (j - 1)) := by
  rw [eightC_set _ _ (by omega)]
  apply eightC_congr
  intro i hi
  unfold shiftF
  by_cases e : i = j
  · subst e; rw [if_pos rfl, if_pos (by omega)]
  · rw [if_neg e]
    by_cases e2 : j < i
    · rw [if_pos e2, if_pos (by omega)]
    · rw [if_neg e2, if_neg (by omega)]
theorem shiftF_start (s : S8) : eightC (shiftF s 7) = h0Cells s := by
  rw [eightC_s]; apply eightC_congr; intro i hi; unfold shiftF; rw [if_neg (by omega)]
/-- added, up to i -/
def sumF (h s : S8) (k i : Nat) : UInt32 := if i < k then addW (h.get i) (s.get i) else h.get i
theorem sumF_next (h s : S8) (k : Nat) (hk : k < 8) : (eightC (sumF h s k)).setIfInBounds k (.int .u32 ((addW (h.get k) (s.get k)).toNat : Int)) = eightC (sumF h s (k + 1)) := by
  rw [eightC_set _ _ hk]
  apply eightC_congr
  intro i hi
  unfold sumF
  by_cases e : i = k
  · subst e; rw [if_pos rfl, if_pos (by omega)]
  · rw [if_neg e]
    by_cases e2 : i < k
    · rw [if_pos e2, if_pos (by omega)]
    · rw [if_neg e2, if_neg (by omega)]
theorem sumF_start (h s : S8) : eightC (sumF h s 0) = h0Cells h := by
  rw [eightC_s]; apply eightC_congr; intro i hi; unfold sumF; rw [if_neg (by omega)]
theorem sumF_end (h s : S8) : eightC (sumF h s 8) = h0Cells (addS h s) := rfl
theorem shiftF_end (s : S8) (x y : UInt32) : ((eightC (shiftF s 0)).setIfInBounds 4 (.int .u32 ((addW s.d x).toNat : Int))).setIfInBounds 0 (.int .u32 ((addW x y).toNat : Int)) = h0Cells ⟨addW x y, s.a, s.b, s.c, addW s.d x, s.e, s.f, s.g⟩ := rfl
theorem cell_of_heap {w : World} {b : Nat} {C : Array Value} {t : TypeId} {fr : Nat × Nat} (h : w.heap[b]? = some (.cells C t fr)) (k : Nat) : w.cell? ⟨b, k, none⟩ = C[k]? := by
  show (match w.heap[b]? with | some (.cells cs _ _) => cs[k]? | _ => none) = _
  rw [h]
theorem heap_set_cell {w : World} {b k : Nat} {C : Array Value} {t : TypeId} (h : w.heap[b]? = some (.cells C t)) (v : Value) : (w.setCell ⟨b, k, none⟩ v).heap[b]? = some (.cells (C.setIfInBounds k v) t) := by
  rw [setCell_eq_setRow w b k C t (0, 0) v h, setRow_heap w b _ _ t _ h]
theorem frozen_of_heap {w : World} {b k : Nat} {C : Array Value} {t : TypeId} (h : w.heap[b]? = some (.cells C t)) : w.frozen? ⟨b, k, none⟩ = false := by
  show (match w.heap[b]? with | some (.cells _ _ (lo, hi)) => decide (lo ≤ k) && decide (k < hi) | _ => false) = false
  rw [h]; simp
end Go.Proofs.YtkbjpgfdmkmbmaaDoor
namespace Go.Proofs.YtkbjpgfdmkmbmaaDoor
open Go.RowKit

end Go.Proofs.YtkbjpgfdmkmbmaaDoor
namespace Go.Proofs.YtkbjpgfdmkmbmaaDoor
open Go.RowKit

end Go.Proofs.YtkbjpgfdmkmbmaaDoor
namespace Go.Proofs.YtkbjpgfdmkmbmaaDoor
open Go.RowKit

end Go.Proofs.YtkbjpgfdmkmbmaaDoor
namespace Go.Proofs.YtkbjpgfdmkmbmaaDoor
open Go.RowKit

/-- the bytes of the first words -/
def outN (s : S8) : Nat → List UInt8
  | 0 => []
  | k + 1 => outN s k ++ byte4 (s.get k)
theorem outN_len (s : S8) (k : Nat) : (outN s k).length = 4 * k := by
  induction k with
  | zero => rfl
  | succ k ih => rw [outN, List.length_append, ih]; show 4 * k + 4 = _; omega
theorem outN_all (s : S8) : outN s 8 = outL s := rfl
theorem byte4_cells (x : UInt32) : cells (byte4 x) = [Value.int .u8 (IntKind.u8.wrap ((x.toNat : Int) / 16777216)), .int .u8 (IntKind.u8.wrap ((x.toNat : Int) / 65536)), .int .u8 (IntKind.u8.wrap ((x.toNat : Int) / 256)), .int .u8 (IntKind.u8.wrap (x.toNat : Int))] := by
  have e : ∀ n : Nat, ((UInt8.ofNat n).toNat : Int) = (n : Int) % 256 := fun n => by rw [UInt8.toNat_ofNat']; omega
  have g : ∀ n : Int, IntKind.u8.wrap n = n % 256 := fun n => by rw [IntKind.wrap_u8]
  unfold byte4 cells
  simp only [List.map_cons, List.map_nil, e, g]
  have h1 : ((x.toNat / 16777216 : Nat) : Int) = (x.toNat : Int) / 16777216 := by omega
  have h2 : ((x.toNat / 65536 : Nat) : Int) = (x.toNat : Int) / 65536 := by omega
  have h3 : ((x.toNat / 256 : Nat) : Int) = (x.toNat : Int) / 256 := by omega
  rw [h1, h2, h3]
end Go.Proofs.YtkbjpgfdmkmbmaaDoor
namespace Go.Proofs.YtkbjpgfdmkmbmaaDoor
open Go.RowKit

end Go.Proofs.YtkbjpgfdmkmbmaaDoor
namespace Go.Proofs.YtkbjpgfdmkmbmaaDoor
open Go.RowKit
set_option linter.unusedVariables false
set_option linter.unusedSimpArgs false

theorem rdw_at {w : World} {A : Option Addr} {c : Nat} {l : List UInt8} (h : RdW w (.slice A l.length c) l) (h0 : 0 < l.length) : ∃ g o, A = some ⟨g, o, none⟩ ∧ g < w.heap.size ∧ ∀ i, i < l.length → w.cell? ⟨g, o + i, none⟩ = some (.int .u8 (b4 l i : Nat)) := by
  obtain ⟨A', c', e, h1, h2, h3⟩ := h
  cases e
  rcases h3 with ⟨h3, _⟩ | ⟨g, o, rfl, hg, h3⟩
  · omega
  · refine ⟨g, o, rfl, hg, fun i hi => ?_⟩
    have := h3 i (.int .u8 (b4 l i : Nat)) (by
      unfold cells b4
      rw [List.getElem?_map, List.getElem?_eq_getElem hi, List.getD_eq_getElem?_getD, List.getElem?_eq_getElem hi]
      rfl)
    rwa [Addr.add_lit] at this
/-- 'string(b)' of bytes within an argument -/
theorem RdW.text {w : World} {v : Value} {l : List UInt8} (h : RdW w v l) : (convert 38 9 v).run Tryd.prog w = .ok (.string ⟨l.toArray⟩) w := by
  obtain ⟨A, c, rfl, h1, h2, h3⟩ := h
  rcases h3 with ⟨h0, rfl⟩ | ⟨g, o, rfl, hg, h3⟩
  · obtain rfl : l = [] := List.length_eq_zero_iff.1 h0
    cases A with
    | none => exact (RdAt.nil w).text
    | some a => exact run_convert_bytes_back (P := Tryd.prog) w 38 9 5 a 0 [] Tryd.underlying38 Tryd.underlying5 Tryd.underlying9 (fun j hj => absurd hj (Nat.not_lt_zero _))
  · exact run_convert_bytes_back (P := Tryd.prog) w 38 9 5 ⟨g, o, none⟩ c l Tryd.underlying38 Tryd.underlying5 Tryd.underlying9 (fun j hj => h3 j _ (by simp [cells, hj]))
end Go.Proofs.YtkbjpgfdmkmbmaaDoor
namespace Go.Proofs.YtkbjpgfdmkmbmaaDoor
variable {P : Program} {ops : Array Oper} {Q : Exit → Act → World → Prop} {md : Region.Mode} {S S' : World → Prop}
theorem wpAnyH_more (h : ∀ w, S' w → S w) : ∀ (fuel : Nat) (listed : Array Bool) (a : Act) (w : World), wpAnyH P md ops Q S' fuel listed a w → wpAnyH P md ops Q S fuel listed a w
  | 0, _, _, _, hw => hw
  | fuel + 1, _, _, _, hw => ⟨hw.1, fun i hi => wpOp_mono (fun a' w' h' => ⟨h w' h'.1, wpAnyH_more h fuel _ a' w' h'.2⟩) (hw.2 i hi)⟩
end Go.Proofs.YtkbjpgfdmkmbmaaDoor
namespace Go.Proofs.YtkbjpgfdmkmbmaaDoor
open Go.RowKit
set_option linter.unusedVariables false
set_option linter.unusedSimpArgs false

/-- a slice that reads as these bytes each -/
def RdB (w : World) (v : Value) (ls : List (List UInt8)) : Prop :=
  ∃ A c, v = .slice A ls.length c ∧ ls.length ≤ c ∧ ∀ k l, ls[k]? = some l → ∃ g o u, A = some ⟨g, o, none⟩ ∧ g < w.heap.size ∧ w.cell? ⟨g, o + k, none⟩ = some u ∧ RdW w u l
theorem RdB.below {w w' : World} {v : Value} {ls : List (List UInt8)} (h : RdB w v ls) (hb : Below w.heap.size w w') : RdB w' v ls := by
  obtain ⟨A, c, rfl, hc, h⟩ := h
  refine ⟨A, c, rfl, hc, fun k l hk => ?_⟩
  obtain ⟨g, o, u, rfl, hg, hu, hr⟩ := h k l hk
  exact ⟨g, o, u, rfl, Nat.lt_of_lt_of_le hg hb.size, (World.cell?_of_block (hb.block g hg)).trans hu, hr.below hb⟩
theorem rdw_form {w : World} {u : Value} {l : List UInt8} (h : RdW w u l) : ∃ A c, u = .slice A l.length c := by
  obtain ⟨A, c, rfl, _⟩ := h
  exact ⟨A, c, rfl⟩
theorem rdb_form {w : World} {u : Value} {l : List (List UInt8)} (h : RdB w u l) : ∃ A c, u = .slice A l.length c := by
  obtain ⟨A, c, rfl, _⟩ := h
  exact ⟨A, c, rfl⟩
/-- a piece -/
theorem RdW.sub {w : World} {g o c : Nat} {l : List UInt8} (h : RdW w (.slice (some ⟨g, o, none⟩) l.length c) l) (hpos : 0 < l.length) (i j : Nat) (hij : i ≤ j) (hj : j ≤ l.length) : RdW w (.slice (some ⟨g, o + i, none⟩) (j - i) (c - i)) ((l.drop i).take (j - i)) := by
  obtain ⟨A', c', e, h1, h2, h3⟩ := h
  cases e
  have hl : ((l.drop i).take (j - i)).length = j - i := by rw [List.length_take, List.length_drop]; omega
  refine ⟨some ⟨g, o + i, none⟩, c - i, by rw [hl], by rw [hl]; omega, by omega, .inr ⟨g, o + i, rfl, ?_⟩⟩
  rcases h3 with ⟨h0, _⟩ | ⟨g', o', e, hg, h3⟩
  · omega
  · injection e with e; injection e with e1 e2
    subst e1; subst e2
    refine ⟨hg, fun y u hu => ?_⟩
    have hy : (cells l)[i + y]? = some u := by
      unfold cells at hu ⊢
      rw [List.getElem?_map] at hu ⊢
      rw [List.getElem?_take] at hu
      split at hu
      · rwa [List.getElem?_drop] at hu
      · cases hu
    have := h3 (i + y) u hy
    rw [Addr.add_lit] at this ⊢
    rw [Nat.add_assoc]; exact this
theorem RdW.subIf {w : World} {g o c : Nat} {l : List UInt8} (h : RdW w (.slice (some ⟨g, o, none⟩) l.length c) l) (hpos : 0 < l.length) (i j : Nat) (hij : i ≤ j) (hj : j ≤ l.length) : RdW w (.slice (if c = i then some ⟨g, o, none⟩ else some ⟨g, o + i, none⟩) (j - i) (c - i)) ((l.drop i).take (j - i)) := by
  by_cases hc : c = i
  · have hcl : l.length ≤ c := by
      obtain ⟨A', c', e, h1, h2, h3⟩ := h
      cases e
      exact h1
    have hl : ((l.drop i).take (j - i)).length = j - i := by rw [List.length_take, List.length_drop]; omega
    rw [if_pos hc]
    exact ⟨_, c - i, by rw [hl], by omega, by omega, .inl ⟨by omega, by omega⟩⟩
  · rw [if_neg hc]
    exact h.sub hpos i j hij hj
theorem Tryd.infoBs : (Tryd.prog.info? 38).map (fun i => (i.zero, i.size, i.bytes)) = some (some (.slice none 0 0), 1, 24) := by kernel_rfl
/-- a row of the call's own of slices of bytes -/
def BRow (w : World) (B : Nat) (v : Value) (vs : List Value) (ls : List (List UInt8)) : Prop :=
  w.ownsRow B 38 1 v ls.length vs ∧ vs.length = ls.length ∧ (∀ u ∈ vs, u.oneCell' = true) ∧ ∀ (k : Nat) (l : List UInt8), ls[k]? = some l → ∃ u, vs[k]? = some u ∧ RdW w u l
theorem BRow.rd {w : World} {B : Nat} {v : Value} {vs : List Value} {ls : List (List UInt8)} (h : BRow w B v vs ls) : RdB w v ls := by
  obtain ⟨ho, hl, h1, hr⟩ := h
  have hc := fun g => World.ownsRow.cells (g := g) ho
  rcases ho.2 with ⟨rfl, h0⟩ | ⟨g, cap, cur, rfl, hB, hg, h4, h5, _⟩
  · obtain rfl := List.length_eq_zero_iff.1 h0
    exact ⟨none, 0, rfl, Nat.le_refl _, fun k l hk => by simp only [List.getElem?_nil] at hk; cases hk⟩
  · refine ⟨_, cap, rfl, h4, fun k l hk => ?_⟩
    obtain ⟨u, hu, hru⟩ := hr k l hk
    have := hc g rfl k u hu
    rw [Addr.add_lit] at this
    exact ⟨g, 0, u, rfl, (Array.getElem?_eq_some_iff.1 hg).1, this, hru⟩
theorem BRow.below {w w' : World} {B : Nat} {v : Value} {vs : List Value} {ls : List (List UInt8)} (h : BRow w B v vs ls) (hb : Below w.heap.size w w') : BRow w' B v vs ls :=
  ⟨own_below h.1 hb, h.2.1, h.2.2.1, fun k l hk => by
    obtain ⟨u, hu, hr⟩ := h.2.2.2 k l hk
    exact ⟨u, hu, hr.below hb⟩⟩
end Go.Proofs.YtkbjpgfdmkmbmaaDoor
namespace Go.Proofs.YtkbjpgfdmkmbmaaDoor
open Go.RowKit

theorem rotl_int (x : UInt32) (n : Nat) : bits .or .u32 ((x.toNat : Int) * 2 ^ (32 - n) % 4294967296) ((x.toNat : Int) / 2 ^ n) = ((rotr x n).toNat : Int) := by
  have h1 : (x.toNat : Int) / 2 ^ n = ((x.toNat / 2 ^ n : Nat) : Int) := by rw [Int.natCast_ediv, Int.natCast_pow]; rfl
  have h2 : (x.toNat : Int) * 2 ^ (32 - n) % 4294967296 = ((x.toNat * 2 ^ (32 - n) % 4294967296 : Nat) : Int) := by rw [Int.natCast_emod, Int.natCast_mul, Int.natCast_pow]; rfl
  rw [rotr_nat, h1, h2, Nat.or_comm]
  exact bits_word_or _ _ (Nat.mod_lt _ (by decide)) (Nat.lt_of_le_of_lt (Nat.div_le_self _ _) (w_lt x))
theorem rotl_any (x : UInt32) (n : Nat) (h0 : 1 ≤ n) (h1 : n ≤ 31) (w : World) :
    Calls Tryd.prog 93 #[.int .u32 (x.toNat : Int), .int .i64 (-(n : Int))] w fun e w' => e = .returned (.int .u32 ((rotr x n).toNat : Int)) ∧ w = w' := by
  have hx := w_lt x
  obtain ⟨m, hm⟩ : ∃ m, 32 - n = m := ⟨_, rfl⟩
  have hmI : (m : Int) = 32 - (n : Int) := by omega
  have hb : bits .and .u64 (IntKind.u64.wrap (-(n : Int))) 31 = (m : Int) := by
    have e : IntKind.u64.wrap (-(n : Int)) = ((18446744073709551616 - n : Nat) : Int) := by rw [IntKind.wrap_u64]; omega
    have := (bits_nat .u64 64 (by decide) (fun k h0 h1 => by rw [IntKind.wrap_u64]; omega) (18446744073709551616 - n) 31 (by omega) (by decide)).1
    rw [e]
    refine this.trans ?_
    have h31 : (18446744073709551616 - n) &&& 31 = (18446744073709551616 - n) % 32 := Nat.and_two_pow_sub_one_eq_mod _ 5
    rw [h31]; omega
  have b1 : (m : Int) ≤ 31 := by omega
  have b0 : (1 : Int) ≤ (m : Int) := by omega
  have hw : IntKind.u64.wrap (32 - (m : Int)) = (n : Int) := by rw [IntKind.wrap_u64]; omega
  have HM := Lib.hid hm
  clear hm hmI
  go_enter Tryd.func93, Tryd.ntmps93
  go_wp2
  go_ret
  exact ⟨ret_int (by have := rotl_int x n; rw [HM.out] at this; exact this), rfl⟩
/-- by a number that is written out -/
theorem rotl_q (x : UInt32) (m : Int) (h0 : -31 ≤ m) (h1 : m ≤ -1) (w : World) :
    Calls Tryd.prog 93 #[.int .u32 (x.toNat : Int), .int .i64 m] w fun e w' => e = .returned (.int .u32 ((rotr x (-m).toNat).toNat : Int)) ∧ w = w' := by
  have := rotl_any x (-m).toNat (by omega) (by omega) w
  have e : -(((-m).toNat : Nat) : Int) = m := by omega
  rw [e] at this; exact this
theorem turned_any (x : UInt32) (a b c : Nat) (ha0 : 1 ≤ a) (ha : a ≤ 31) (hb0 : 1 ≤ b) (hb : b ≤ 31) (hc0 : 1 ≤ c) (hc : c ≤ 31) (w : World) :
    Calls Tryd.prog 87 #[.int .u32 (x.toNat : Int), .int .i64 (a : Int), .int .i64 (b : Int), .int .i64 (c : Int)] w fun e w' =>
      e = .returned (.int .u32 ((xorW (xorW (rotr x a) (rotr x b)) (rotr x c)).toNat : Int)) ∧ w = w' := by
  have hv : bits .xor .u32 (bits .xor .u32 ((rotr x a).toNat : Int) ((rotr x b).toNat : Int)) ((rotr x c).toNat : Int) = ((xorW (xorW (rotr x a) (rotr x b)) (rotr x c)).toNat : Int) := by rw [w_xor, w_xor]
  have HV := Lib.hid hv; clear hv
  go_enter Tryd.func87, Tryd.ntmps87
  go_wp2_with (go_at_call 93; refine (rotl_any x _ (by omega) (by omega) _).mono ?_; rintro e w' ⟨rfl, rfl⟩)
  go_ret
  exact ⟨ret_int HV.out, rfl⟩
theorem turned_q (x : UInt32) (a b c : Int) (ha0 : 1 ≤ a) (ha : a ≤ 31) (hb0 : 1 ≤ b) (hb : b ≤ 31) (hc0 : 1 ≤ c) (hc : c ≤ 31) (w : World) :
    Calls Tryd.prog 87 #[.int .u32 (x.toNat : Int), .int .i64 a, .int .i64 b, .int .i64 c] w fun e w' =>
      e = .returned (.int .u32 ((xorW (xorW (rotr x a.toNat) (rotr x b.toNat)) (rotr x c.toNat)).toNat : Int)) ∧ w' = w := by
  have := turned_any x a.toNat b.toNat c.toNat (by omega) (by omega) (by omega) (by omega) (by omega) (by omega) w
  rw [show ((a.toNat : Nat) : Int) = a by omega, show ((b.toNat : Nat) : Int) = b by omega, show ((c.toNat : Nat) : Int) = c by omega] at this
  exact this.mono fun _ _ h => ⟨h.1, h.2.symm⟩
end Go.Proofs.YtkbjpgfdmkmbmaaDoor
namespace Go.Proofs.YtkbjpgfdmkmbmaaDoor
open Go.RowKit

theorem sub_at (s : ByteArray) (a b i : Nat) (h : i < (s.extract a b).size) (h' : a + i < s.size) : (s.extract a b)[i] = s[a + i] := by simp [ByteArray.getElem_extract]
theorem below_setCells {B : Nat} {w w' : World} (h : Below B w w') {g : Nat} (hg : B ≤ g) : ∀ (vs : List Value) (o : Nat), Below B w (w'.setCells g o vs) := by
  intro vs
  induction vs generalizing w' with
  | nil => exact fun _ => h
  | cons v vs ih => intro o; exact ih (h.setCell (p := ⟨g, o, none⟩) hg v) (o + 1)
theorem or_add (k x y : Nat) (hy : y < 2 ^ k) : 2 ^ k * x ||| y = 2 ^ k * x + y := (Nat.two_pow_add_eq_or_of_lt hy x).symm
theorem or_word (a b c d : UInt8) : bits .or .u32 (bits .or .u32 (bits .or .u32 ((a.toNat : Int) * 16777216) ((b.toNat : Int) * 65536)) ((c.toNat : Int) * 256)) (d.toNat : Int) = (a.toNat : Int) * 16777216 + (b.toNat : Int) * 65536 + (c.toNat : Int) * 256 + (d.toNat : Int) := by
  have ha := a.toNat_lt
  have hb := b.toNat_lt
  have hc := c.toNat_lt
  have hd := d.toNat_lt
  have e1 : (a.toNat * 16777216) ||| (b.toNat * 65536) = a.toNat * 16777216 + b.toNat * 65536 := by
    have := or_add 24 a.toNat (b.toNat * 65536) (by omega)
    rw [show 2 ^ 24 * a.toNat = a.toNat * 16777216 by omega] at this; exact this
  have e2 : (a.toNat * 16777216 + b.toNat * 65536) ||| (c.toNat * 256) = a.toNat * 16777216 + b.toNat * 65536 + c.toNat * 256 := by
    have := or_add 16 (a.toNat * 256 + b.toNat) (c.toNat * 256) (by omega)
    rw [show 2 ^ 16 * (a.toNat * 256 + b.toNat) = a.toNat * 16777216 + b.toNat * 65536 by omega] at this; exact this
  have e3 : (a.toNat * 16777216 + b.toNat * 65536 + c.toNat * 256) ||| d.toNat = a.toNat * 16777216 + b.toNat * 65536 + c.toNat * 256 + d.toNat := by
    have := or_add 8 (a.toNat * 65536 + b.toNat * 256 + c.toNat) d.toNat (by omega)
    rw [show 2 ^ 8 * (a.toNat * 65536 + b.toNat * 256 + c.toNat) = a.toNat * 16777216 + b.toNat * 65536 + c.toNat * 256 by omega] at this; exact this
  have r1 := bits_word_or (a.toNat * 16777216) (b.toNat * 65536) (by omega) (by omega)
  have r2 := bits_word_or (a.toNat * 16777216 + b.toNat * 65536) (c.toNat * 256) (by omega) (by omega)
  have r3 := bits_word_or (a.toNat * 16777216 + b.toNat * 65536 + c.toNat * 256) d.toNat (by omega) (by omega)
  rw [e1] at r1; rw [e2] at r2; rw [e3] at r3
  rw [show (a.toNat : Int) * 16777216 = ((a.toNat * 16777216 : Nat) : Int) by omega, show (b.toNat : Int) * 65536 = ((b.toNat * 65536 : Nat) : Int) by omega, show (c.toNat : Int) * 256 = ((c.toNat * 256 : Nat) : Int) by omega, r1, r2, r3]
  omega
theorem four_of (s : ByteArray) (hs : s.size = 64) (k : Nat) (hk : k < 16) : ∃ (B4 : ByteArray) (c0 c1 c2 c3 : UInt8), s.extract (4 * k) (4 * k + 4) = B4 ∧ (∃ h : 4 ≤ B4.size, B4[0] = c0 ∧ B4[1] = c1 ∧ B4[2] = c2 ∧ B4[3] = c3) ∧
    bits .or .u32 (bits .or .u32 (bits .or .u32 ((c0.toNat : Int) * 16777216) ((c1.toNat : Int) * 65536)) ((c2.toNat : Int) * 256)) (c3.toNat : Int) = ((schedW s.data.toList 0 k).toNat : Int) := by
  have hsz : s.data.toList.length = 64 := hs
  have hwd := word_nat s.data.toList (0 + 4 * k) (by omega)
  rw [← schedW_first s.data.toList 0 k hk] at hwd
  refine ⟨_, _, _, _, _, rfl, ⟨by simp [ByteArray.size_extract]; omega, sub_at s _ _ 0 _ (by omega), sub_at s _ _ 1 _ (by omega), sub_at s _ _ 2 _ (by omega), sub_at s _ _ 3 _ (by omega)⟩, ?_⟩
  rw [or_word, hwd]
  simp only [Nat.zero_add, Nat.add_zero]
  rfl
set_option maxRecDepth 100000 in
set_option maxHeartbeats 1000000 in
theorem spread_any (s : ByteArray) (hs : s.size = 64) (w : World) :
    Calls Tryd.prog 86 #[.string s] w fun e w' => e = .returned (.agg (wC s.data.toList 0 64)) ∧ Below w.heap.size w w' := by
  obtain ⟨hz, hi⟩ := zero_of_info Tryd.zero64
  rw [← wC_zero s.data.toList 0] at hz
  have HZ := Lib.hid hz; have HI := Lib.hid hi; clear hz hi
  have hsz : s.data.toList.length = 64 := hs
  go_enter Tryd.func86, Tryd.ntmps86
  go_wp2_with (with_reducible refine wpList_alloc_var 143 (.agg (wC s.data.toList 0 0)) HZ.out ?_)
  have hXs : w.heap.size + 1 = (w.alloc (.cells (wC s.data.toList 0 0) 143)).heap.size := by simp
  have hXb : Below w.heap.size w (w.alloc (.cells (wC s.data.toList 0 0) 143)) := (Below.refl _ _).alloc (Nat.le_refl _) _
  have hX0 : (w.alloc (.cells (wC s.data.toList 0 0) 143)).heap[w.heap.size]? = some (.cells (wC s.data.toList 0 0) 143) := heap_alloc_last w _
  rw [hXs]
  generalize w.alloc (.cells (wC s.data.toList 0 0) 143) = X at *
  have HXS := Lib.hid hXs; have HX0 := Lib.hid hX0; clear hXs hX0
  go_loopw [9] (fun i W => ∃ k q : Nat, k ≤ 16 ∧ i = .int .i64 (k : Int) ∧ W = (X.alloc (.cells (wC s.data.toList 0 k) 143)).drewN q) (fun i _ => 16 - (intOf i).toNat)
  case atStart => exact ⟨0, 0, by omega, rfl, rfl⟩
  case round =>
    obtain ⟨k, q, hk, rfl, rfl⟩ := hrel
    by_cases hlt : k < 16
    · have hd : decide ((k : Int) < 16) = true := by simp; omega
      have hsl : ∀ W, (Instr.slice 9 (.string s) (some (.int .i64 (4 * (k : Int)))) (some (.int .i64 (4 * (k : Int) + 4))) none).run Tryd.prog W = .ok (.string (s.extract (4 * k) (4 * k + 4))) W := fun W => by
        rw [run_slice_string_lh W 9 s Tryd.underlying9 .i64 .i64 _ _ (by omega) (by omega) (by omega)]
        rw [show (4 * (k : Int)).toNat = 4 * k by omega, show (4 * (k : Int) + 4).toNat = 4 * k + 4 by omega]
      have hnx := wC_next s.data.toList 0 k (by omega)
      obtain ⟨B4, c0, c1, c2, c3, hB, ⟨hB4, hb0, hb1, hb2, hb3⟩, hw⟩ := four_of s hs k hlt
      have HS := Lib.hid hs; clear hs hsz
      rw [hB] at hsl
      have l0 := c0.toNat_lt
      have l1 := c1.toNat_lt
      have l2 := c2.toNat_lt
      have l3 := c3.toNat_lt
      have dk := arr_at X (wC s.data.toList 0 k) 143 k _ (wC_here s.data.toList 0 k (by omega))
      have bk : (k : Int) < 64 := by omega
      have HWD := Lib.hid hw; have HNX := Lib.hid hnx
      clear hB hw hnx
      generalize schedW s.data.toList 0 k = xk at *
      generalize wC s.data.toList 0 k = C at *
      go_wp2
      refine wp_region_quiet_tail 20 (by kernel_rfl) (by kernel_rfl) ?_
      simp only [List.take_succ_cons, List.take_zero, List.drop_succ_cons, List.drop_zero]
      repeat (go_big_quiet_step (fail))
      refine wpQuiet_nil ?_
      go_wp2
      go_roundw
      case rel => exact ⟨k + 1, q + 1, by omega, by go_num, by rw [arr_store, HWD.out, HNX.out]⟩
      case measure => simp [intOf]; omega
    · obtain rfl : k = 16 := by omega
      rw [show ((16 : Nat) : Int) = 16 from rfl]
      go_wp2
      go_loopw [6] (fun i W => ∃ k q : Nat, 16 ≤ k ∧ k ≤ 64 ∧ i = .int .i64 (k : Int) ∧ W = (X.alloc (.cells (wC s.data.toList 0 k) 143)).drewN q) (fun i _ => 64 - (intOf i).toNat)
      case atStart => exact ⟨16, q, by omega, by omega, rfl, rfl⟩
      case round =>
        obtain ⟨k, q, hk16, hk, rfl, rfl⟩ := hrel
        by_cases hk64 : k < 64
        · have hd64 : decide ((k : Int) < 64) = true := by simp; omega
          have hwd := schedW_next s.data.toList 0 k (by omega)
          have hnx := wC_next s.data.toList 0 k hk64
          have hal : ∀ x : Nat, x < k → ((X.alloc (.cells (wC s.data.toList 0 k) 143)).drewN q).cell? ⟨X.heap.size, x, none⟩ = some (.int .u32 ((schedW s.data.toList 0 x).toNat : Int)) := fun x hx => arr_at X _ _ x _ (wC_at s.data.toList 0 k x hx)
          have dk : ((X.alloc (.cells (wC s.data.toList 0 k) 143)).drewN q).cell? ⟨X.heap.size, k, none⟩ = some (.int .u32 0) := arr_at X (wC s.data.toList 0 k) 143 k _ (wC_here s.data.toList 0 k hk64)
          have fk : ((X.alloc (.cells (wC s.data.toList 0 k) 143)).drewN q).frozen? ⟨X.heap.size, k, none⟩ = false := by simp
          have d15 := hal (k - 15) (by omega)
          have d2 := hal (k - 2) (by omega)
          have d16 := hal (k - 16) (by omega)
          have d7 := hal (k - 7) (by omega)
          obtain ⟨n15, hn15⟩ : ∃ n, k - 15 = n := ⟨_, rfl⟩
          obtain ⟨n2, hn2⟩ : ∃ n, k - 2 = n := ⟨_, rfl⟩
          obtain ⟨n16, hn16⟩ : ∃ n, k - 16 = n := ⟨_, rfl⟩
          obtain ⟨n7, hn7⟩ : ∃ n, k - 7 = n := ⟨_, rfl⟩
          rw [hn15] at d15 hwd
          rw [hn2] at d2 hwd
          rw [hn16] at d16 hwd
          rw [hn7] at d7 hwd
          have w15 : IntKind.i64.wrap ((k : Int) - 15) = (n15 : Int) := by rw [IntKind.wrap_i64]; omega
          have w2 : IntKind.i64.wrap ((k : Int) - 2) = (n2 : Int) := by rw [IntKind.wrap_i64]; omega
          have w16 : IntKind.i64.wrap ((k : Int) - 16) = (n16 : Int) := by rw [IntKind.wrap_i64]; omega
          have w7 : IntKind.i64.wrap ((k : Int) - 7) = (n7 : Int) := by rw [IntKind.wrap_i64]; omega
          have b15 : (n15 : Int) < 64 := by omega
          have b2 : (n2 : Int) < 64 := by omega
          have b16 : (n16 : Int) < 64 := by omega
          have b7 : (n7 : Int) < 64 := by omega
          have bk : (k : Int) < 64 := by omega
          clear hal hn15 hn2 hn16 hn7
          generalize schedW s.data.toList 0 n15 = x15 at *
          generalize schedW s.data.toList 0 n2 = x2 at *
          generalize schedW s.data.toList 0 n16 = x16 at *
          generalize schedW s.data.toList 0 n7 = x7 at *
          generalize schedW s.data.toList 0 k = xk at *
          generalize wC s.data.toList 0 k = C at *
          have hsi := sched_int x16 x15 x7 x2
          rw [← hwd] at hsi
          have HSI := Lib.hid hsi; have HNX := Lib.hid hnx; have HSZ := Lib.hid hsz; have HS := Lib.hid hs
          clear hwd hsi hnx hsz hs
          generalize hW : (X.alloc (.cells C 143)).drewN q = W at *
          have HW := Lib.hid hW; clear hW
          go_wp2
          go_quiet (fail)
          go_wp2_with (go_at_call 93; refine (rotl_q _ _ (by decide) (by decide) _).mono ?_; rintro e w' ⟨rfl, rfl⟩)
          generalize hE : bits .xor .u32 (bits .xor .u32 ((rotr x15 7).toNat : Int) ((rotr x15 18).toNat : Int)) ((x15.toNat : Int) / 8) = E1
          generalize hE2 : bits .xor .u32 (bits .xor .u32 ((rotr x2 17).toNat : Int) ((rotr x2 19).toNat : Int)) ((x2.toNat : Int) / 1024) = E2
          have HSI2 := HSI.out
          rw [hE, hE2] at HSI2
          have HS2 := Lib.hid HSI2
          clear hE hE2 HSI2 HSI
          refine wp_region_quiet_tail 15 (by kernel_rfl) (by kernel_rfl) ?_
          simp only [List.take_succ_cons, List.take_zero, List.drop_succ_cons, List.drop_zero]
          repeat (go_big_quiet_step (fail))
          refine wpQuiet_nil ?_
          go_wp2
          go_roundw
          case rel => exact ⟨k + 1, _, by omega, by omega, by go_num, by rw [← HW.out, HS2.out]; simp only [World.drewN_drewN]; rw [arr_store, HNX.out]⟩
          case measure => simp [intOf]; omega
        · have hd64 : decide ((k : Int) < 64) = false := by simp; omega
          obtain rfl : k = 64 := by omega
          have hz64 := wC_size s.data.toList 0 64 (Nat.le_refl _)
          have hlen : (wC s.data.toList 0 64).toList.length = 64 := by simpa using hz64
          have hone : ∀ v ∈ (wC s.data.toList 0 64).toList, v.oneCell' = true := wC_one s.data.toList 0 64
          have hrg : ((X.alloc (.cells (wC s.data.toList 0 64) 143)).drewN q).rangeAt X.heap.size 0 (wC s.data.toList 0 64).toList := fun j v hv => by
            rw [Nat.zero_add]; exact arr_at X _ _ j v (by simpa using hv)
          generalize hCC : wC s.data.toList 0 64 = C at *
          have hcs : C.size = C.toList.length := by simp
          have hwl : w.heap.size < X.heap.size := by have := HXS.out; omega
          have hth : ((X.alloc (.cells C 143)).drewN q).there w.heap.size 0 C.size := fun j hj => by
            have hz0 := wC_size s.data.toList 0 0 (by omega)
            have hb : ((X.alloc (.cells C 143)).drewN q).heap[w.heap.size]? = some (.cells (wC s.data.toList 0 0) 143) := (((Below.refl _ _).alloc (Nat.le_refl _) _).block _ hwl).trans HX0.out
            rw [Nat.zero_add]
            refine ⟨?_, frozen_of_heap hb⟩
            rw [cell_of_heap hb, Array.getElem?_eq_getElem (by omega)]; rfl
          have hbl : Below w.heap.size w ((X.alloc (.cells C 143)).drewN q) := belowDrewN (hXb.alloc hXb.size _) q
          generalize (X.alloc (.cells C 143)).drewN q = W at *
          have HRG := Lib.hid hrg; have HTH := Lib.hid hth; have HCC := Lib.hid hCC; have HLEN := Lib.hid hlen; have HONE := Lib.hid hone; have HCS := Lib.hid hcs; have HS2 := Lib.hid hs
          clear hrg hth hCC hlen hone hcs hz64 hs hsz
          rw [show ((64 : Nat) : Int) = 64 from rfl]
          go_wp2_with (first
            | (with_reducible refine wpList_load_mid rfl 143 (.tmp 3) rfl X.heap.size 0 rfl C.toList _ HRG.out Tryd.underlying143 rfl (HI.out.trans (by rw [HLEN.out])) ?_)
            | (with_reducible refine wpList_store_mid rfl 143 (.tmp 2) (.tmp 83) rfl w.heap.size 0 C rfl rfl HTH.out (HI.out.trans (by rw [HCS.out, HLEN.out])) (by have := all_oneCell_toArray HONE.out; simpa using this) ?_))
          refine bodyPost_ret (results_cell (t := 2) (ty := 143) rfl _ _ w.heap.size C.toList _ rfl (World.rangeAt_setCells_same _ _ _ _ (by rw [← HCS.out]; exact HTH.out)) Tryd.underlying143 rfl (HI.out.trans (by rw [HLEN.out]))) rfl ⟨?_, ?_⟩
          · rw [HCC.out]
          · exact below_setCells hbl (Nat.le_refl _) _ _
end Go.Proofs.YtkbjpgfdmkmbmaaDoor
