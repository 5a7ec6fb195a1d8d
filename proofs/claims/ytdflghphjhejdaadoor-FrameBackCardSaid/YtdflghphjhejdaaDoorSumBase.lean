/- What the walks of the sums share: the arrays in variables, as cells. -/
import Derived.Test.YtdflghphjhejdaaDoorTurn
import Derived.Test.YtdflghphjhejdaaDoorArr
import Derived.Test.YtdflghphjhejdaaDoorMBuf
import Derived.Test.YtdflghphjhejdaaDoorCode
import Derived.BigRegion
import Derived.Deep.Cut
namespace Go.Proofs.YtdflghphjhejdaaDoor
open Go.RowKit

/-- eight words as cells -/
def h0Cells (s : S8) : Array Value := #[.int .u32 (s.a.toNat : Int), .int .u32 (s.b.toNat : Int), .int .u32 (s.c.toNat : Int), .int .u32 (s.d.toNat : Int), .int .u32 (s.e.toNat : Int), .int .u32 (s.f.toNat : Int), .int .u32 (s.g.toNat : Int), .int .u32 (s.h.toNat : Int)]
def vlen : Value → Nat
  | .slice _ n _ => n
  | _ => 0
theorem vlen_mbuf {w : World} {B : Nat} {v : Value} {l : List UInt8} {g cap : Nat} (h : MBuf w B v l g cap) : vlen v = l.length := by rw [h.val]; rfl
theorem grown_below {B : Nat} {X w w' : World} {g : Nat} (h : Below B X w) (hB : B ≤ w.heap.size) (hg : w.grownBy w' (some g)) (hBg : B ≤ g) : Below B X w' := h.grown hg hB (fun j hj => by injection hj with hj; omega)
def kCells : Array Value := (kL.map fun x => Value.int .u32 (x.toNat : Int)).toArray
theorem kCells_at (i : Nat) (h : i < 64) : kCells[i]? = some (.int .u32 ((kAt i).toNat : Int)) := by
  have hl : i < kL.length := h
  unfold kCells kAt
  simp [List.getD, hl]
theorem kCells_size : kCells.size = 64 := by kernel_rfl
theorem kCells_one : kCells.all (·.oneCell') = true := by kernel_rfl
theorem Tryd.zero64 : (Tryd.prog.info? 45).map (fun i => (i.zero, i.size)) = some (some (.agg (Array.replicate 64 (.int .u32 0))), 64) := by kernel_rfl
/-- the schedule's array, so far -/
def wC (b : List UInt8) (p k : Nat) : Array Value := ((schedL b p k).map fun x => Value.int .u32 (x.toNat : Int)).toArray ++ Array.replicate (64 - k) (.int .u32 0)
theorem wC_zero (b : List UInt8) (p : Nat) : wC b p 0 = Array.replicate 64 (.int .u32 0) := by simp [wC, schedL]
theorem wC_size (b : List UInt8) (p k : Nat) (h : k ≤ 64) : (wC b p k).size = 64 := by simp [wC, schedL_len]; omega
theorem wC_at (b : List UInt8) (p k j : Nat) (h : j < k) : (wC b p k)[j]? = some (.int .u32 ((schedW b p j).toNat : Int)) := by
  have hl : j < (schedL b p k).length := by rw [schedL_len]; exact h
  unfold wC
  rw [Array.getElem?_append_left (by simpa using hl), ← schedL_at b p k j h]
  simp [List.getD, hl]
theorem wC_here (b : List UInt8) (p k : Nat) (h : k < 64) : (wC b p k)[k]? = some (.int .u32 0) := by
  unfold wC
  have e : k - ((schedL b p k).map fun x => Value.int .u32 (x.toNat : Int)).toArray.size = 0 := by simp [schedL_len]
  rw [Array.getElem?_append_right (by simp [schedL_len]), e, Array.getElem?_replicate, if_pos (by omega)]
theorem wC_next (b : List UInt8) (p k : Nat) (h : k < 64) : (wC b p k).setIfInBounds k (.int .u32 ((schedW b p k).toNat : Int)) = wC b p (k + 1) := by
  apply Array.ext_getElem?
  intro j
  rw [Array.getElem?_setIfInBounds, wC_size b p k (by omega)]
  by_cases hj : k = j
  · subst hj
    rw [if_pos rfl, if_pos h, wC_at b p (k + 1) k (by omega)]
  · rw [if_neg hj]
    by_cases hjk : j < k
    · rw [wC_at b p k j hjk, wC_at b p (k + 1) j (by omega)]
    · unfold wC
      rw [Array.getElem?_append_right (by simp [schedL_len]; omega), Array.getElem?_append_right (by simp [schedL_len]; omega)]
      simp only [Array.getElem?_replicate, List.size_toArray, List.length_map, schedL_len]
      by_cases h64 : j < 64
      · rw [if_pos (by omega), if_pos (by omega)]
      · rw [if_neg (by omega), if_neg (by omega)]
theorem wC_one (b : List UInt8) (p k : Nat) : ∀ v ∈ (wC b p k).toList, v.oneCell' = true := by
  intro v hv
  simp only [wC, Array.toList_append, List.mem_append, Array.toList_replicate] at hv
  rcases hv with h | h
  · obtain ⟨_, _, rfl⟩ := List.mem_map.1 h; rfl
  · obtain ⟨_, rfl⟩ := List.mem_replicate.1 h; rfl
theorem word_nat (b : List UInt8) (q : Nat) (h : q + 3 < b.length) : ((wordL b q).toNat : Int) = (b[q].toNat : Int) * 16777216 + (b[q + 1].toNat : Int) * 65536 + (b[q + 2].toNat : Int) * 256 + (b[q + 3].toNat : Int) := by
  have g : ∀ j (hj : j < b.length), b.getD j 0 = b[j] := fun j hj => by simp [List.getD, hj]
  unfold wordL
  rw [g q (by omega), g (q + 1) (by omega), g (q + 2) (by omega), g (q + 3) (by omega), UInt32.toNat_ofNat']
  have h0 := b[q].toNat_lt
  have h1 := b[q + 1].toNat_lt
  have h2 := b[q + 2].toNat_lt
  have h3 := b[q + 3].toNat_lt
  omega
theorem len_byte (n c : Nat) : (8 * (n : Int) / 2 ^ (8 * (7 - c)) % 256) = ((UInt8.ofNat (8 * n / 256 ^ (7 - c))).toNat : Int) := by
  have e : (256 : Nat) ^ (7 - c) = 2 ^ (8 * (7 - c)) := by rw [Nat.pow_mul]
  rw [e, UInt8.toNat_ofNat']
  have h : (8 * (n : Int) / 2 ^ (8 * (7 - c))) = ((8 * n / 2 ^ (8 * (7 - c)) : Nat) : Int) := by
    rw [Int.natCast_ediv, Int.natCast_mul, Int.natCast_pow]; rfl
  rw [h]; omega
theorem lenL_next (n c : Nat) (h : c < 8) : (lenL n).take (c + 1) = (lenL n).take c ++ [UInt8.ofNat (8 * n / 256 ^ (7 - c))] := by
  have hl : c < (lenL n).length := h
  rw [List.take_succ_eq_append_getElem hl]
  simp [lenL]
theorem arr_at (w : World) (C : Array Value) (t : TypeId) (k : Nat) (v : Value) (h : C[k]? = some v) : (w.alloc (.cells C t)).cell? ⟨w.heap.size, k, none⟩ = some v := by
  rw [← h]
  show (match (w.alloc _).heap[w.heap.size]? with | some (.cells cs _ _) => cs[k]? | _ => none) = _
  rw [heap_alloc_last]
theorem old_at (w : World) (o : Obj) (g k : Nat) (h : g < w.heap.size) : (w.alloc o).cell? ⟨g, k, none⟩ = w.cell? ⟨g, k, none⟩ := ((Below.refl w.heap.size w).alloc (Nat.le_refl _) o).cell (p := ⟨g, k, none⟩) h
end Go.Proofs.YtdflghphjhejdaaDoor
