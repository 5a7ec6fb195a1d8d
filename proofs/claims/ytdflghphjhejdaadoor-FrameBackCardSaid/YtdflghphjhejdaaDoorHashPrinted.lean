/- hash.printed: eight words as bytes. -/
import Derived.Test.YtdflghphjhejdaaDoorSumEight
import Derived.Test.YtdflghphjhejdaaDoorSum8
import Derived.Test.YtdflghphjhejdaaDoorHashStir
namespace Go.Proofs.YtdflghphjhejdaaDoor
open Go.RowKit

theorem Tryd.zero32 : (Tryd.prog.info? 56).map (fun i => (i.zero, i.size)) = some (some (.agg (Array.replicate 32 (.int .u8 0))), 32) := by kernel_rfl
/-- an array of bytes, so far -/
def bC (n : Nat) (l : List UInt8) : Array Value := (cells l).toArray ++ Array.replicate (n - l.length) (.int .u8 0)
theorem bC_zero (n : Nat) : bC n [] = Array.replicate n (.int .u8 0) := by simp [bC, cells]
theorem bC_size (n : Nat) (l : List UInt8) (h : l.length ≤ n) : (bC n l).size = n := by simp [bC, cells]; omega
theorem bC_at (n : Nat) (l : List UInt8) (j : Nat) (h : j < l.length) : (bC n l)[j]? = some (.int .u8 (l[j].toNat : Int)) := by
  unfold bC cells
  rw [Array.getElem?_append_left (by simpa using h)]
  simp [h]
theorem bC_here (n : Nat) (l : List UInt8) (h : l.length < n) : (bC n l)[l.length]? = some (.int .u8 0) := by
  unfold bC cells
  rw [Array.getElem?_append_right (by simp), Array.getElem?_replicate, if_pos (by simp; omega)]
theorem bC_next (n : Nat) (l : List UInt8) (c : UInt8) (h : l.length < n) : (bC n l).setIfInBounds l.length (.int .u8 (c.toNat : Int)) = bC n (l ++ [c]) := by
  apply Array.ext_getElem?
  intro j
  rw [Array.getElem?_setIfInBounds, bC_size n l (by omega)]
  by_cases hj : l.length = j
  · subst hj
    rw [if_pos rfl, if_pos h, bC_at n (l ++ [c]) l.length (by simp)]
    simp
  · rw [if_neg hj]
    by_cases hjk : j < l.length
    · rw [bC_at n l j hjk, bC_at n (l ++ [c]) j (by simp; omega)]
      simp [List.getElem_append_left hjk]
    · unfold bC cells
      rw [Array.getElem?_append_right (by simp; omega), Array.getElem?_append_right (by simp; omega)]
      simp only [Array.getElem?_replicate, List.size_toArray, List.length_map, List.length_append, List.length_cons, List.length_nil]
      by_cases h64 : j < n
      · rw [if_pos (by omega), if_pos (by omega)]
      · rw [if_neg (by omega), if_neg (by omega)]
theorem byte4_at (x : UInt32) (j : Nat) (hj : j < 4) : (((byte4 x).getD j 0).toNat : Int) = (x.toNat : Int) / 2 ^ (24 - 8 * j) % 256 := by
  have hx := x.toNat_lt
  have e : ∀ n : Nat, ((UInt8.ofNat n).toNat : Int) = (n : Int) % 256 := fun n => by rw [UInt8.toNat_ofNat']; omega
  match j, hj with
  | 0, _ => exact (e _).trans (by simp)
  | 1, _ => exact (e _).trans (by simp)
  | 2, _ => exact (e _).trans (by simp)
  | 3, _ => exact (e _).trans (by simp)
theorem conv_arr (w : World) (l : List UInt8) (cs : Array Value) (e : TypeId) (n c : Nat) (hn : n = l.length) (h : cs.toList = cells l) :
    (convert 23 9 (.slice (some ⟨w.heap.size, 0, none⟩) n c)).run Tryd.prog (w.alloc (.cells cs e)) = .ok (.string ⟨l.toArray⟩) (w.alloc (.cells cs e)) := by
  subst hn
  refine run_convert_bytes_back (P := Tryd.prog) _ 23 9 5 ⟨w.heap.size, 0, none⟩ c l Tryd.underlying23 Tryd.underlying5 Tryd.underlying9 (fun j hj => ?_)
  exact new_cells w cs e j _ (by rw [h]; simp [cells, hj])
set_option maxRecDepth 100000 in
set_option maxHeartbeats 1000000 in
theorem printed_any (s : S8) (w : World) :
    Calls Tryd.prog 25 #[.agg (h0Cells s)] w fun e w' => e = .returned (.string ⟨(outL s).toArray⟩) ∧ Below w.heap.size w w' := by
  obtain ⟨hz, hi⟩ := zero_of_info Tryd.zero32
  rw [← bC_zero 32] at hz
  have HZ := Lib.hid hz; have HI := Lib.hid hi; clear hz hi
  unfold h0Cells
  go_enter Tryd.func25, Tryd.ntmps25
  go_wp2_with (with_reducible refine wpList_alloc_var 56 (.agg (bC 32 [])) HZ.out ?_)
  have he : (#[.int .u32 (s.a.toNat : Int), .int .u32 (s.b.toNat : Int), .int .u32 (s.c.toNat : Int), .int .u32 (s.d.toNat : Int), .int .u32 (s.e.toNat : Int), .int .u32 (s.f.toNat : Int), .int .u32 (s.g.toNat : Int), .int .u32 (s.h.toNat : Int)] : Array Value) = eightC s.get := rfl
  rw [he]
  clear he
  have hat := eightC_at s.get
  generalize eightC s.get = E8 at *
  have hXb : Below w.heap.size w (w.alloc (.cells E8 46)) := (Below.refl _ _).alloc (Nat.le_refl _) _
  have hXs : w.heap.size + 1 = (w.alloc (.cells E8 46)).heap.size := by simp
  rw [hXs]
  generalize w.alloc (.cells E8 46) = X at *
  have HAT := Lib.hid hat; clear hat hXs
  go_loopw [8] (fun i W => ∃ k : Nat, k ≤ 8 ∧ i = .int .i64 (k : Int) ∧ W = X.alloc (.cells (bC 32 (outN s k)) 56)) (fun i _ => 8 - (intOf i).toNat)
  case atStart => exact ⟨0, by omega, rfl, rfl⟩
  case round =>
    obtain ⟨k, hk, rfl, rfl⟩ := hrel
    by_cases hlt : k < 8
    · have hd : decide ((k : Int) < 8) = true := by simp; omega
      have hix := run_index_u32 (X.alloc (.cells (bC 32 (outN s k)) 56)) 46 8 E8 k _ Tryd.underlying46 hlt (HAT.out k hlt)
      have hl := outN_len s k
      have hn : outN s (k + 1) = outN s k ++ byte4 (s.get k) := rfl
      generalize s.get k = x at *
      generalize outN s k = O at *
      have HIX := Lib.hid hix; have HL := Lib.hid hl; have HN := Lib.hid hn; clear hix hl hn
      go_wp2
      rw [HIX.out]
      simp only [Result.andThen_ok]
      rw [Oper.upon_value]
      go_wp2
      go_loopw [12] (fun i W => ∃ j : Nat, j ≤ 4 ∧ i = .int .i64 (j : Int) ∧ W = X.alloc (.cells (bC 32 (O ++ (byte4 x).take j)) 56)) (fun i _ => 4 - (intOf i).toNat)
      case atStart => exact ⟨0, by omega, rfl, by simp⟩
      case round =>
        obtain ⟨j, hj, rfl, rfl⟩ := hrel
        by_cases hj4 : j < 4
        · have hlen : (O ++ (byte4 x).take j).length = 4 * k + j := by
            have h4 : (byte4 x).length = 4 := rfl
            rw [List.length_append, HL.out, List.length_take, h4]; omega
          have hhere := arr_at X (bC 32 (O ++ (byte4 x).take j)) 56 _ _ (bC_here 32 (O ++ (byte4 x).take j) (by omega))
          have hnx := bC_next 32 (O ++ (byte4 x).take j) ((byte4 x).getD j 0) (by omega)
          have htk : O ++ (byte4 x).take j ++ [(byte4 x).getD j 0] = O ++ (byte4 x).take (j + 1) := by
            have h4 : j < (byte4 x).length := hj4
            rw [List.take_succ_eq_append_getElem h4, List.append_assoc]
            simp [List.getD, h4]
          rw [htk] at hnx
          rw [hlen] at hnx hhere
          have hi : (4 * (k : Int) + (j : Int)) < 32 := by omega
          generalize hC : bC 32 (O ++ (byte4 x).take j) = C at *
          have HNX := Lib.hid hnx; have HLEN := Lib.hid hlen; have HTK := Lib.hid htk; have HC := Lib.hid hC; clear hnx hlen htk hC
          go_wp2
          rw [byte4_at x j hj4] at HNX
          exact ⟨⟨j + 1, by omega, by go_num, by rw [HNX.out]⟩, by simp [intOf]; omega⟩
        · obtain rfl : j = 4 := by omega
          have h4 : (byte4 x).take 4 = byte4 x := rfl
          rw [h4, show ((4 : Nat) : Int) = 4 from rfl]
          go_wp2
          exact ⟨⟨k + 1, by omega, by go_num, by rw [HN.out]⟩, by simp [intOf]; omega⟩
    · obtain rfl : k = 8 := by omega
      rw [outN_all, show ((8 : Nat) : Int) = 8 from rfl]
      have hc8 : bC 32 (outL s) = (cells (outL s)).toArray := by
        unfold bC; rw [outL_len]; simp
      have hcv := fun n c hn => conv_arr X (outL s) (cells (outL s)).toArray 56 n c hn rfl
      have hcv32 := hcv 32 32 (outL_len s)
      rw [hc8]
      have hbl : Below w.heap.size w (X.alloc (.cells (cells (outL s)).toArray 56)) := hXb.alloc hXb.size _
      generalize (cells (outL s)).toArray = C at *
      clear hcv hc8
      go_wp2
      go_ret
      exact ⟨rfl, hbl⟩
end Go.Proofs.YtdflghphjhejdaaDoor
