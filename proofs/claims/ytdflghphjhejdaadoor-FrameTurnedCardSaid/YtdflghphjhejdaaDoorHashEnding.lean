/- hash.ending: the last blocks. -/
import Derived.Test.YtdflghphjhejdaaDoorHashPrinted
import Derived.Lib.BufferWrite
namespace Go.Proofs.YtdflghphjhejdaaDoor
open Go.RowKit

theorem Tryd.zero128 : (Tryd.prog.info? 55).map (fun i => (i.zero, i.size)) = some (some (.agg (Array.replicate 128 (.int .u8 0))), 128) := by kernel_rfl
theorem info_u8 : (Tryd.prog.info? 5).map (·.size) = some 1 := by kernel_rfl
/-- a text copied into an array of noughts -/
theorem copy_arr (X : World) (N : Nat) (s : ByteArray) (hs : s.size ≤ N) (t ty : TypeId) :
    (Builtin.copy_ #[23, 9] ty #[.slice (some ⟨X.heap.size, 0, none⟩) N N, .string s]).run Tryd.prog (X.alloc (.cells (bC N []) t)) = .ok (goInt s.size) (X.alloc (.cells (bC N s.data.toList) t)) := by
  have h := Lib.run_copy_row_string (P := Tryd.prog) (X.alloc (.cells (bC N []) t)) 23 9 ty 5 X.heap.size 0 N N s (bC N []) t Tryd.underlying23 info_u8 (heap_alloc_last X _) hs (by rw [bC_size N [] (by simp)]; omega)
  rw [h, World.setRow_alloc_new]
  have e : (List.take 0 (bC N []).toList ++ Lib.byteCells s.data.toList ++ List.drop (0 + s.size) (bC N []).toList).toArray = bC N s.data.toList := by
    have hl : s.data.toList.length = s.size := rfl
    rw [bC_zero]
    unfold bC
    apply Array.ext'
    simp [Lib.byteCells, cells]
  rw [e]
theorem bC_set (n : Nat) (l : List UInt8) (j : Nat) (c : UInt8) (hj : j < l.length) : (bC n l).setIfInBounds j (.int .u8 (c.toNat : Int)) = bC n (l.set j c) := by
  unfold bC cells
  apply Array.ext'
  simp [hj, List.map_set]
theorem bC_zeros (n : Nat) (l : List UInt8) (k : Nat) (h : l.length + k ≤ n) : bC n (l ++ List.replicate k 0) = bC n l := by
  unfold bC cells
  apply Array.ext'
  simp only [Array.toList_append, Array.toList_replicate, List.map_append, List.map_replicate, List.length_append, List.length_replicate, List.append_assoc]
  rw [show (Value.int .u8 ((0 : UInt8).toNat : Int)) = Value.int .u8 0 from rfl, List.replicate_append_replicate, show k + (n - (l.length + k)) = n - l.length by omega]
theorem conv_part (w : World) (l : List UInt8) (N : Nat) (e : TypeId) (n : Nat) (hn : n = l.length) :
    (convert 23 9 (.slice (some ⟨w.heap.size, 0, none⟩) n N)).run Tryd.prog (w.alloc (.cells (bC N l) e)) = .ok (.string ⟨l.toArray⟩) (w.alloc (.cells (bC N l) e)) := by
  subst hn
  refine run_convert_bytes_back (P := Tryd.prog) _ 23 9 5 ⟨w.heap.size, 0, none⟩ N l Tryd.underlying23 Tryd.underlying5 Tryd.underlying9 (fun j hj => ?_)
  have e1 : (⟨w.heap.size, 0, none⟩ : Addr).add j = ⟨w.heap.size, j, none⟩ := by rw [Addr.add_mid, Nat.zero_add]
  rw [e1]
  exact arr_at w (bC N l) e j _ (bC_at N l j hj)
/-- the last block, or the last two -/
def endL (r : List UInt8) (n : Nat) : List UInt8 := r ++ [128] ++ List.replicate (zerosN r.length) 0 ++ lenL n
theorem len_byte2 (n i : Nat) : (8 * (n : Int) / 2 ^ (8 * i) % 256) = ((UInt8.ofNat (8 * n / 256 ^ i)).toNat : Int) := by
  have e : (256 : Nat) ^ i = 2 ^ (8 * i) := by rw [Nat.pow_mul]
  rw [e, UInt8.toNat_ofNat']
  have h : (8 * (n : Int) / 2 ^ (8 * i)) = ((8 * n / 2 ^ (8 * i) : Nat) : Int) := by
    rw [Int.natCast_ediv, Int.natCast_mul, Int.natCast_pow]; rfl
  rw [h]; omega
theorem lenL_drop (n i : Nat) (h : i < 8) : (lenL n).drop (7 - i) = UInt8.ofNat (8 * n / 256 ^ i) :: (lenL n).drop (8 - i) := by
  have hl : 7 - i < (lenL n).length := by show 7 - i < 8; omega
  rw [List.drop_eq_getElem_cons hl, show 7 - i + 1 = 8 - i by omega]
  congr 1
  simp only [lenL, List.getElem_map, List.getElem_range]
  rw [show 7 - (7 - i) = i by omega]
/-- the array when i bytes of the length are there, the last ones -/
def endI (P : List UInt8) (n i : Nat) : List UInt8 := P ++ (List.replicate (8 - i) 0 ++ (lenL n).drop (8 - i))
theorem endI_len (P : List UInt8) (n i : Nat) (h : i ≤ 8) : (endI P n i).length = P.length + 8 := by
  have : (lenL n).length = 8 := rfl
  simp only [endI, List.length_append, List.length_replicate, List.length_drop, this]; omega
theorem endI_next (P : List UInt8) (n i : Nat) (h : i < 8) : (endI P n i).set (P.length + 7 - i) (UInt8.ofNat (8 * n / 256 ^ i)) = endI P n (i + 1) := by
  unfold endI
  rw [show 8 - (i + 1) = 7 - i by omega, lenL_drop n i h, show 8 - i = (7 - i) + 1 by omega, List.replicate_succ', List.set_append_right _ _ (by omega), show P.length + 7 - i - P.length = 7 - i by omega]
  congr 1
  rw [List.append_assoc, List.set_append_right _ _ (by simp)]
  simp
theorem endI_all (P : List UInt8) (n : Nat) : endI P n 8 = P ++ lenL n := by simp [endI]
theorem endI_none (P : List UInt8) (n : Nat) : endI P n 0 = P ++ List.replicate 8 0 := by
  have : (lenL n).length = 8 := rfl
  simp [endI, List.drop_of_length_le, this]
set_option maxRecDepth 100000 in
set_option maxHeartbeats 1000000 in
theorem ending_any (r : ByteArray) (n : Nat) (hr : r.size < 64) (hn : n ≤ 1099511627776) (w : World) :
    Calls Tryd.prog 24 #[.string r, .int .i64 (n : Int)] w fun e w' => e = .returned (.string ⟨(endL r.data.toList n).toArray⟩) ∧ Below w.heap.size w w' := by
  obtain ⟨hz, hi⟩ := zero_of_info Tryd.zero128
  rw [← bC_zero 128] at hz
  have HZ := Lib.hid hz; have HI := Lib.hid hi; clear hz hi
  have hl : r.data.toList.length = r.size := rfl
  have hcp := copy_arr w 128 r (by omega) 55
  have hhere := arr_at w (bC 128 r.data.toList) 55 _ _ (bC_here 128 r.data.toList (by omega))
  have hnx := bC_next 128 r.data.toList 128 (by omega)
  rw [hl] at hhere hnx
  have hbl : ∀ C, Below w.heap.size w (w.alloc (.cells C 55)) := fun C => (Below.refl _ _).alloc (Nat.le_refl _) _
  have HNX := Lib.hid hnx; have HL := Lib.hid hl; have HBL := Lib.hid hbl; clear hnx hl hbl
  go_enter Tryd.func24, Tryd.ntmps24
  go_wp2_with (with_reducible refine wpList_alloc_var 55 (.agg (bC 128 [])) HZ.out ?_)
  · have hzn : zerosN r.size = 119 - r.size := by unfold zerosN; omega
    have hPl : (r.data.toList ++ [128] ++ List.replicate (zerosN r.size) 0).length + 8 = 128 := by
      rw [hzn]; simp [HL.out]; omega
    have hst : (bC 128 r.data.toList).setIfInBounds r.size (.int .u8 128) = bC 128 (endI (r.data.toList ++ [128] ++ List.replicate (zerosN r.size) 0) n 0) := by
      rw [endI_none, bC_zeros _ _ 8 (by omega), bC_zeros _ _ _ (by rw [hzn]; simp [HL.out]; omega)]
      exact HNX.out
    rw [hst]
    have hend : endI (r.data.toList ++ [128] ++ List.replicate (zerosN r.size) 0) n 8 = endL r.data.toList n := by rw [endI_all]; rfl
    generalize r.data.toList ++ [128] ++ List.replicate (zerosN r.size) 0 = P at *
    have HEND := Lib.hid hend; clear hend hst hzn hcp hhere
    go_loopw [23] (fun i W => ∃ i0 : Nat, i0 ≤ 8 ∧ i = .int .i64 (i0 : Int) ∧ W = w.alloc (.cells (bC 128 (endI P n i0)) 55)) (fun i _ => 8 - (intOf i).toNat)
    case atStart => exact ⟨0, by omega, rfl, rfl⟩
    case round =>
      obtain ⟨i, hi8, rfl, rfl⟩ := hrel
      by_cases hlt : i < 8
      · have hd : decide ((i : Int) < 8) = true := by simp; omega
        have hil := endI_len P n i (by omega)
        have hx : (128 - 1 - i) < (endI P n i).length := by omega
        have hnx := bC_set 128 (endI P n i) (128 - 1 - i) (UInt8.ofNat (8 * n / 256 ^ i)) hx
        rw [show 128 - 1 - i = P.length + 7 - i by omega, endI_next P n i hlt, show P.length + 7 - i = 128 - 1 - i by omega] at hnx
        rw [← len_byte2] at hnx
        obtain ⟨m, hm⟩ : ∃ m, 128 - 1 - i = m := ⟨_, rfl⟩
        rw [hm] at hnx hx
        have e1 : IntKind.i64.wrap (128 - 1 - (i : Int)) = (m : Int) := by rw [IntKind.wrap_i64]; omega
        have e2 : (127 : Int) - (i : Int) = (m : Int) := by omega
        have e3 : IntKind.i64.wrap (127 - (i : Int)) = (m : Int) := by rw [IntKind.wrap_i64]; omega
        have bm : (m : Int) < 128 := by omega
        have hh := arr_at w (bC 128 (endI P n i)) 55 _ _ (bC_at 128 (endI P n i) m hx)
        generalize (endI P n i)[m].toNat = oo at *
        generalize bC 128 (endI P n i) = C at *
        have HNX2 := Lib.hid hnx; clear hnx hil hm
        go_wp2
        rw [Int.mul_comm (n : Int) 8, HNX2.out]
        exact ⟨⟨i + 1, by omega, by go_num, rfl⟩, by simp [intOf]; omega⟩
      · obtain rfl : i = 8 := by omega
        have hcv := conv_part w (endL r.data.toList n) 128 55 128 (by rw [← HEND.out, endI_len P n 8 (by omega)]; omega)
        have hb := HBL.out (bC 128 (endL r.data.toList n))
        rw [HEND.out, show ((8 : Nat) : Int) = 8 from rfl]
        generalize bC 128 (endL r.data.toList n) = C at *
        go_wp2
        go_ret
        exact ⟨rfl, hb⟩
  · have hzn : zerosN r.size = 55 - r.size := by unfold zerosN; omega
    have hPl : (r.data.toList ++ [128] ++ List.replicate (zerosN r.size) 0).length + 8 = 64 := by
      rw [hzn]; simp [HL.out]; omega
    have hst : (bC 128 r.data.toList).setIfInBounds r.size (.int .u8 128) = bC 128 (endI (r.data.toList ++ [128] ++ List.replicate (zerosN r.size) 0) n 0) := by
      rw [endI_none, bC_zeros _ _ 8 (by omega), bC_zeros _ _ _ (by rw [hzn]; simp [HL.out]; omega)]
      exact HNX.out
    rw [hst]
    have hend : endI (r.data.toList ++ [128] ++ List.replicate (zerosN r.size) 0) n 8 = endL r.data.toList n := by rw [endI_all]; rfl
    generalize r.data.toList ++ [128] ++ List.replicate (zerosN r.size) 0 = P at *
    have HEND := Lib.hid hend; clear hend hst hzn hcp hhere
    go_loopw [23] (fun i W => ∃ i0 : Nat, i0 ≤ 8 ∧ i = .int .i64 (i0 : Int) ∧ W = w.alloc (.cells (bC 128 (endI P n i0)) 55)) (fun i _ => 8 - (intOf i).toNat)
    case atStart => exact ⟨0, by omega, rfl, rfl⟩
    case round =>
      obtain ⟨i, hi8, rfl, rfl⟩ := hrel
      by_cases hlt : i < 8
      · have hd : decide ((i : Int) < 8) = true := by simp; omega
        have hil := endI_len P n i (by omega)
        have hx : (64 - 1 - i) < (endI P n i).length := by omega
        have hnx := bC_set 128 (endI P n i) (64 - 1 - i) (UInt8.ofNat (8 * n / 256 ^ i)) hx
        rw [show 64 - 1 - i = P.length + 7 - i by omega, endI_next P n i hlt, show P.length + 7 - i = 64 - 1 - i by omega] at hnx
        rw [← len_byte2] at hnx
        obtain ⟨m, hm⟩ : ∃ m, 64 - 1 - i = m := ⟨_, rfl⟩
        rw [hm] at hnx hx
        have e1 : IntKind.i64.wrap (64 - 1 - (i : Int)) = (m : Int) := by rw [IntKind.wrap_i64]; omega
        have e2 : (63 : Int) - (i : Int) = (m : Int) := by omega
        have e3 : IntKind.i64.wrap (63 - (i : Int)) = (m : Int) := by rw [IntKind.wrap_i64]; omega
        have bm : (m : Int) < 128 := by omega
        have hh := arr_at w (bC 128 (endI P n i)) 55 _ _ (bC_at 128 (endI P n i) m hx)
        generalize (endI P n i)[m].toNat = oo at *
        generalize bC 128 (endI P n i) = C at *
        have HNX2 := Lib.hid hnx; clear hnx hil hm
        go_wp2
        rw [Int.mul_comm (n : Int) 8, HNX2.out]
        exact ⟨⟨i + 1, by omega, by go_num, rfl⟩, by simp [intOf]; omega⟩
      · obtain rfl : i = 8 := by omega
        have hcv := conv_part w (endL r.data.toList n) 128 55 64 (by rw [← HEND.out, endI_len P n 8 (by omega)]; omega)
        have hb := HBL.out (bC 128 (endL r.data.toList n))
        rw [HEND.out, show ((8 : Nat) : Int) = 8 from rfl]
        generalize bC 128 (endL r.data.toList n) = C at *
        go_wp2
        go_ret
        exact ⟨rfl, hb⟩
end Go.Proofs.YtdflghphjhejdaaDoor
