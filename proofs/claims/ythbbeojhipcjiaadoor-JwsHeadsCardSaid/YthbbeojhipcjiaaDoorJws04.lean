/- Texts merged by program, in build order: HashEnding, Mac, JsonPure, JwsPure, JsonRead. -/
import Derived.Test.YthbbeojhipcjiaaDoorJws03
import Derived.Lib.BufferWrite
import Derived.Lib.LazyBuf
import Derived.Lib.Bytealg
import Derived.Test.YthbbeojhipcjiaaDoorJws01
namespace Go.Proofs.YthbbeojhipcjiaaDoor
open Go.RowKit

theorem Tryd.zero128 : (Tryd.prog.info? 117).map (fun i => (i.zero, i.size)) = some (some (.agg (Array.replicate 128 (.int .u8 0))), 128) := by kernel_rfl
theorem info_u8 : (Tryd.prog.info? 5).map (·.size) = some 1 := by kernel_rfl
/-- a text copied into an array of noughts -/
theorem copy_arr (X : World) (N : Nat) (s : ByteArray) (hs : s.size ≤ N) (t ty : TypeId) :
    (Builtin.copy_ #[67, 9] ty #[.slice (some ⟨X.heap.size, 0, none⟩) N N, .string s]).run Tryd.prog (X.alloc (.cells (bC N []) t)) = .ok (goInt s.size) (X.alloc (.cells (bC N s.data.toList) t)) := by
  have h := Lib.run_copy_row_string (P := Tryd.prog) (X.alloc (.cells (bC N []) t)) 67 9 ty 5 X.heap.size 0 N N s (bC N []) t Tryd.underlying67 info_u8 (heap_alloc_last X _) hs (by rw [bC_size N [] (by simp)]; omega)
  rw [h, World.setRow_alloc_new]
  have e : (List.take 0 (bC N []).toList ++ Lib.byteCells s.data.toList ++ List.drop (0 + s.size) (bC N []).toList).toArray = bC N s.data.toList := by
    have hl : s.data.toList.length = s.size := rfl
    rw [bC_zero]
    unfold bC
    apply Array.ext'
    simp [Lib.byteCells, cells]
  rw [e]
theorem bC_set (n : Nat) (l : List UInt8) (j : Nat) (c : UInt8) (hj : j < l.length) : (bC n l).setIfInBounds j (.int .u8 (c.toNat : Int)) = bC n (l.set j c) := by
  unfold bC cells
  apply Array.ext'
  simp [hj, List.map_set]
theorem bC_zeros (n : Nat) (l : List UInt8) (k : Nat) (h : l.length + k ≤ n) : bC n (l ++ List.replicate k 0) = bC n l := by
  unfold bC cells
  apply Array.ext'
  simp only [Array.toList_append, Array.toList_replicate, List.map_append, List.map_replicate, List.length_append, List.length_replicate, List.append_assoc]
  rw [show (Value.int .u8 ((0 : UInt8).toNat : Int)) = Value.int .u8 0 from rfl, List.replicate_append_replicate, show k + (n - (l.length + k)) = n - l.length by omega]
theorem conv_part (w : World) (l : List UInt8) (N : Nat) (e : TypeId) (n : Nat) (hn : n = l.length) :
    (convert 67 9 (.slice (some ⟨w.heap.size, 0, none⟩) n N)).run Tryd.prog (w.alloc (.cells (bC N l) e)) = .ok (.string ⟨l.toArray⟩) (w.alloc (.cells (bC N l) e)) := by
  subst hn
  refine run_convert_bytes_back (P := Tryd.prog) _ 67 9 5 ⟨w.heap.size, 0, none⟩ N l Tryd.underlying67 Tryd.underlying5 Tryd.underlying9 (fun j hj => ?_)
  have e1 : (⟨w.heap.size, 0, none⟩ : Addr).add j = ⟨w.heap.size, j, none⟩ := by rw [Addr.add_mid, Nat.zero_add]
  rw [e1]
  exact arr_at w (bC N l) e j _ (bC_at N l j hj)
/-- the last block, or the last two -/
def endL (r : List UInt8) (n : Nat) : List UInt8 := r ++ [128] ++ List.replicate (zerosN r.length) 0 ++ lenL n
theorem len_byte2 (n i : Nat) : (8 * (n : Int) / 2 ^ (8 * i) % 256) = ((UInt8.ofNat (8 * n / 256 ^ i)).toNat : Int) := by
  have e : (256 : Nat) ^ i = 2 ^ (8 * i) := by rw [Nat.pow_mul]
  rw [e, UInt8.toNat_ofNat']
  have h : (8 * (n : Int) / 2 ^ (8 * i)) = ((8 * n / 2 ^ (8 * i) : Nat) : Int) := by
    rw [Int.natCast_ediv, Int.natCast_mul, Int.natCast_pow]; rfl
  rw [h]; omega
theorem lenL_drop (n i : Nat) (h : i < 8) : (lenL n).drop (7 - i) = UInt8.ofNat (8 * n / 256 ^ i) :: (lenL n).drop (8 - i) := by
  have hl : 7 - i < (lenL n).length := by show 7 - i < 8; omega
  rw [List.drop_eq_getElem_cons hl, show 7 - i + 1 = 8 - i by omega]
  congr 1
  simp only [lenL, List.getElem_map, List.getElem_range]
  rw [show 7 - (7 - i) = i by omega]
/-- the array when i bytes of the length are there, the last ones -/
def endI (P : List UInt8) (n i : Nat) : List UInt8 := P ++ (List.replicate (8 - i) 0 ++ (lenL n).drop (8 - i))
theorem endI_len (P : List UInt8) (n i : Nat) (h : i ≤ 8) : (endI P n i).length = P.length + 8 := by
  have : (lenL n).length = 8 := rfl
  simp only [endI, List.length_append, List.length_replicate, List.length_drop, this]; omega
theorem endI_next (P : List UInt8) (n i : Nat) (h : i < 8) : (endI P n i).set (P.length + 7 - i) (UInt8.ofNat (8 * n / 256 ^ i)) = endI P n (i + 1) := by
  unfold endI
  rw [show 8 - (i + 1) = 7 - i by omega, lenL_drop n i h, show 8 - i = (7 - i) + 1 by omega, List.replicate_succ', List.set_append_right _ _ (by omega), show P.length + 7 - i - P.length = 7 - i by omega]
  congr 1
  rw [List.append_assoc, List.set_append_right _ _ (by simp)]
  simp
theorem endI_all (P : List UInt8) (n : Nat) : endI P n 8 = P ++ lenL n := by simp [endI]
theorem endI_none (P : List UInt8) (n : Nat) : endI P n 0 = P ++ List.replicate 8 0 := by
  have : (lenL n).length = 8 := rfl
  simp [endI, List.drop_of_length_le, this]
set_option maxRecDepth 100000 in
set_option maxHeartbeats 1000000 in
theorem ending_any (r : ByteArray) (n : Nat) (hr : r.size < 64) (hn : n ≤ 1099511627776) (w : World) :
    Calls Tryd.prog 65 #[.string r, .int .i64 (n : Int)] w fun e w' => e = .returned (.string ⟨(endL r.data.toList n).toArray⟩) ∧ Below w.heap.size w w' := by
  obtain ⟨hz, hi⟩ := zero_of_info Tryd.zero128
  rw [← bC_zero 128] at hz
  have HZ := Lib.hid hz; have HI := Lib.hid hi; clear hz hi
  have hl : r.data.toList.length = r.size := rfl
  have hcp := copy_arr w 128 r (by omega) 117
  have hhere := arr_at w (bC 128 r.data.toList) 117 _ _ (bC_here 128 r.data.toList (by omega))
  have hnx := bC_next 128 r.data.toList 128 (by omega)
  rw [hl] at hhere hnx
  have hbl : ∀ C, Below w.heap.size w (w.alloc (.cells C 117)) := fun C => (Below.refl _ _).alloc (Nat.le_refl _) _
  have HNX := Lib.hid hnx; have HL := Lib.hid hl; have HBL := Lib.hid hbl; clear hnx hl hbl
  go_enter Tryd.func65, Tryd.ntmps65
  go_wp2_with (with_reducible refine wpList_alloc_var 117 (.agg (bC 128 [])) HZ.out ?_)
  · have hzn : zerosN r.size = 119 - r.size := by unfold zerosN; omega
    have hPl : (r.data.toList ++ [128] ++ List.replicate (zerosN r.size) 0).length + 8 = 128 := by
      rw [hzn]; simp [HL.out]; omega
    have hst : (bC 128 r.data.toList).setIfInBounds r.size (.int .u8 128) = bC 128 (endI (r.data.toList ++ [128] ++ List.replicate (zerosN r.size) 0) n 0) := by
      rw [endI_none, bC_zeros _ _ 8 (by omega), bC_zeros _ _ _ (by rw [hzn]; simp [HL.out]; omega)]
      exact HNX.out
    rw [hst]
    have hend : endI (r.data.toList ++ [128] ++ List.replicate (zerosN r.size) 0) n 8 = endL r.data.toList n := by rw [endI_all]; rfl
    generalize r.data.toList ++ [128] ++ List.replicate (zerosN r.size) 0 = P at *
    have HEND := Lib.hid hend; clear hend hst hzn hcp hhere
    go_loopw [23] (fun i W => ∃ i0 : Nat, i0 ≤ 8 ∧ i = .int .i64 (i0 : Int) ∧ W = w.alloc (.cells (bC 128 (endI P n i0)) 117)) (fun i _ => 8 - (intOf i).toNat)
    case atStart => exact ⟨0, by omega, rfl, rfl⟩
    case round =>
      obtain ⟨i, hi8, rfl, rfl⟩ := hrel
      by_cases hlt : i < 8
      · have hd : decide ((i : Int) < 8) = true := by simp; omega
        have hil := endI_len P n i (by omega)
        have hx : (128 - 1 - i) < (endI P n i).length := by omega
        have hnx := bC_set 128 (endI P n i) (128 - 1 - i) (UInt8.ofNat (8 * n / 256 ^ i)) hx
        rw [show 128 - 1 - i = P.length + 7 - i by omega, endI_next P n i hlt, show P.length + 7 - i = 128 - 1 - i by omega] at hnx
        rw [← len_byte2] at hnx
        obtain ⟨m, hm⟩ : ∃ m, 128 - 1 - i = m := ⟨_, rfl⟩
        rw [hm] at hnx hx
        have e1 : IntKind.i64.wrap (128 - 1 - (i : Int)) = (m : Int) := by rw [IntKind.wrap_i64]; omega
        have e2 : (127 : Int) - (i : Int) = (m : Int) := by omega
        have e3 : IntKind.i64.wrap (127 - (i : Int)) = (m : Int) := by rw [IntKind.wrap_i64]; omega
        have bm : (m : Int) < 128 := by omega
        have hh := arr_at w (bC 128 (endI P n i)) 117 _ _ (bC_at 128 (endI P n i) m hx)
        generalize (endI P n i)[m].toNat = oo at *
        generalize bC 128 (endI P n i) = C at *
        have HNX2 := Lib.hid hnx; clear hnx hil hm
        go_wp2
        rw [Int.mul_comm (n : Int) 8, HNX2.out]
        exact ⟨⟨i + 1, by omega, by go_num, rfl⟩, by simp [intOf]; omega⟩
      · obtain rfl : i = 8 := by omega
        have hcv := conv_part w (endL r.data.toList n) 128 117 128 (by rw [← HEND.out, endI_len P n 8 (by omega)]; omega)
        have hb := HBL.out (bC 128 (endL r.data.toList n))
        rw [HEND.out, show ((8 : Nat) : Int) = 8 from rfl]
        generalize bC 128 (endL r.data.toList n) = C at *
        go_wp2
        go_ret
        exact ⟨rfl, hb⟩
  · have hzn : zerosN r.size = 55 - r.size := by unfold zerosN; omega
    have hPl : (r.data.toList ++ [128] ++ List.replicate (zerosN r.size) 0).length + 8 = 64 := by
      rw [hzn]; simp [HL.out]; omega
    have hst : (bC 128 r.data.toList).setIfInBounds r.size (.int .u8 128) = bC 128 (endI (r.data.toList ++ [128] ++ List.replicate (zerosN r.size) 0) n 0) := by
      rw [endI_none, bC_zeros _ _ 8 (by omega), bC_zeros _ _ _ (by rw [hzn]; simp [HL.out]; omega)]
      exact HNX.out
    rw [hst]
    have hend : endI (r.data.toList ++ [128] ++ List.replicate (zerosN r.size) 0) n 8 = endL r.data.toList n := by rw [endI_all]; rfl
    generalize r.data.toList ++ [128] ++ List.replicate (zerosN r.size) 0 = P at *
    have HEND := Lib.hid hend; clear hend hst hzn hcp hhere
    go_loopw [23] (fun i W => ∃ i0 : Nat, i0 ≤ 8 ∧ i = .int .i64 (i0 : Int) ∧ W = w.alloc (.cells (bC 128 (endI P n i0)) 117)) (fun i _ => 8 - (intOf i).toNat)
    case atStart => exact ⟨0, by omega, rfl, rfl⟩
    case round =>
      obtain ⟨i, hi8, rfl, rfl⟩ := hrel
      by_cases hlt : i < 8
      · have hd : decide ((i : Int) < 8) = true := by simp; omega
        have hil := endI_len P n i (by omega)
        have hx : (64 - 1 - i) < (endI P n i).length := by omega
        have hnx := bC_set 128 (endI P n i) (64 - 1 - i) (UInt8.ofNat (8 * n / 256 ^ i)) hx
        rw [show 64 - 1 - i = P.length + 7 - i by omega, endI_next P n i hlt, show P.length + 7 - i = 64 - 1 - i by omega] at hnx
        rw [← len_byte2] at hnx
        obtain ⟨m, hm⟩ : ∃ m, 64 - 1 - i = m := ⟨_, rfl⟩
        rw [hm] at hnx hx
        have e1 : IntKind.i64.wrap (64 - 1 - (i : Int)) = (m : Int) := by rw [IntKind.wrap_i64]; omega
        have e2 : (63 : Int) - (i : Int) = (m : Int) := by omega
        have e3 : IntKind.i64.wrap (63 - (i : Int)) = (m : Int) := by rw [IntKind.wrap_i64]; omega
        have bm : (m : Int) < 128 := by omega
        have hh := arr_at w (bC 128 (endI P n i)) 117 _ _ (bC_at 128 (endI P n i) m hx)
        generalize (endI P n i)[m].toNat = oo at *
        generalize bC 128 (endI P n i) = C at *
        have HNX2 := Lib.hid hnx; clear hnx hil hm
        go_wp2
        rw [Int.mul_comm (n : Int) 8, HNX2.out]
        exact ⟨⟨i + 1, by omega, by go_num, rfl⟩, by simp [intOf]; omega⟩
      · obtain rfl : i = 8 := by omega
        have hcv := conv_part w (endL r.data.toList n) 128 117 64 (by rw [← HEND.out, endI_len P n 8 (by omega)]; omega)
        have hb := HBL.out (bC 128 (endL r.data.toList n))
        rw [HEND.out, show ((8 : Nat) : Int) = 8 from rfl]
        generalize bC 128 (endL r.data.toList n) = C at *
        go_wp2
        go_ret
        exact ⟨rfl, hb⟩
end Go.Proofs.YthbbeojhipcjiaaDoor
namespace Go.Proofs.YthbbeojhipcjiaaDoor
open Go.RowKit

def keyL (k : List UInt8) : List UInt8 := if 64 < k.length then sumL k else k
def padK (k : List UInt8) : List UInt8 := keyL k ++ List.replicate (64 - (keyL k).length) 0
def xorL (c : UInt8) (l : List UInt8) : List UInt8 := l.map fun x => x ^^^ c
def macL (k b : List UInt8) : List UInt8 := sumL (xorL 92 (padK k) ++ sumL (xorL 54 (padK k) ++ b))
theorem sumL_len (l : List UInt8) : (sumL l).length = 32 := rfl
theorem keyL_len (k : List UInt8) : (keyL k).length ≤ 64 := by
  unfold keyL; split
  · rw [sumL_len]; omega
  · omega
theorem padK_len (k : List UInt8) : (padK k).length = 64 := by
  have := keyL_len k
  unfold padK; rw [List.length_append, List.length_replicate]; omega
theorem macL_len (k b : List UInt8) : (macL k b).length = 32 := rfl
theorem xor8 (x c : UInt8) : bits .xor .u8 (x.toNat : Int) (c.toNat : Int) = ((x ^^^ c).toNat : Int) := by
  rw [bits_xor_nat .u8 8 (by decide) (fun n h0 h1 => by rw [IntKind.wrap_u8]; omega) _ _ x.toNat_lt c.toNat_lt, UInt8.toNat_xor]
/-- the first i bytes turned -/
def xorI (c : UInt8) (l : List UInt8) (i : Nat) : List UInt8 := xorL c (l.take i) ++ l.drop i
theorem xorI_len (c : UInt8) (l : List UInt8) (i : Nat) : (xorI c l i).length = l.length := by simp [xorI, xorL]; omega
theorem xorI_zero (c : UInt8) (l : List UInt8) : xorI c l 0 = l := by simp [xorI, xorL]
theorem xorI_all (c : UInt8) (l : List UInt8) (n : Nat) (h : l.length = n) : xorI c l n = xorL c l := by subst h; simp [xorI, xorL]
theorem xorI_at (c : UInt8) (l : List UInt8) (i : Nat) (h : i < l.length) (h' : i < (xorI c l i).length) : (xorI c l i)[i] = l[i] := by
  have e : (xorI c l i)[i]? = some l[i] := by
    unfold xorI xorL
    rw [List.getElem?_append_right (by simp; omega)]
    simp [Nat.min_eq_left (Nat.le_of_lt h), h]
  rw [List.getElem?_eq_getElem h'] at e
  injection e
theorem xorI_next (c : UInt8) (l : List UInt8) (i : Nat) (h : i < l.length) : (xorI c l i).set i (l[i] ^^^ c) = xorI c l (i + 1) := by
  unfold xorI xorL
  rw [List.set_append_right _ _ (by simp; omega), List.take_succ_eq_append_getElem h, List.map_append, List.append_assoc]
  congr 1
  have e : i - (List.map (fun x => x ^^^ c) (List.take i l)).length = 0 := by simp; omega
  rw [e, List.drop_eq_getElem_cons h]; rfl

def setAll (C : Array Value) : Nat → List Value → Array Value
  | _, [] => C
  | o, v :: r => setAll (C.setIfInBounds o v) (o + 1) r
theorem setCells_heap {b : Nat} {t : TypeId} : ∀ (vs : List Value) (o : Nat) (w : World) (C : Array Value), w.heap[b]? = some (.cells C t) → (w.setCells b o vs).heap[b]? = some (.cells (setAll C o vs) t)
  | [], _, _, _, h => h
  | v :: r, o, w, C, h => setCells_heap r (o + 1) (w.setCell ⟨b, o, none⟩ v) (C.setIfInBounds o v) (heap_set_cell h v)
theorem setCells_far {b k : Nat} (hk : k ≠ b) : ∀ (vs : List Value) (o : Nat) (w : World), (w.setCells b o vs).heap[k]? = w.heap[k]?
  | [], _, _ => rfl
  | v :: r, o, w => (setCells_far hk r (o + 1) (w.setCell ⟨b, o, none⟩ v)).trans (Below.heap_setCell w _ v k (fun e => hk (by rw [e])))
theorem setAll_bytes (n : Nat) : ∀ (l a : List UInt8), a.length + l.length ≤ n → setAll (bC n a) a.length (cells l) = bC n (a ++ l)
  | [], a, _ => by simp [cells, setAll]
  | c :: l, a, h => by
    have h' : a.length + (l.length + 1) ≤ n := by simpa using h
    show setAll ((bC n a).setIfInBounds a.length (.int .u8 (c.toNat : Int))) (a.length + 1) (cells l) = _
    rw [bC_next n a c (by omega)]
    have e : a.length + 1 = (a ++ [c]).length := by simp
    rw [e, setAll_bytes n l (a ++ [c]) (by simp; omega), List.append_assoc]; rfl
/-- a text copied into an array of noughts that lies somewhere -/
theorem copy_heap (W : World) (b N : Nat) (s : ByteArray) (hs : s.size ≤ N) (t ty : TypeId) (h : W.heap[b]? = some (.cells (bC N []) t)) :
    (Builtin.copy_ #[67, 9] ty #[.slice (some ⟨b, 0, none⟩) N N, .string s]).run Tryd.prog W = .ok (goInt s.size) (W.setCells b 0 (cells s.data.toList)) ∧
    (W.setCells b 0 (cells s.data.toList)).heap[b]? = some (.cells (bC N s.data.toList) t) := by
  have hsz : ∀ w, (sizeOf 5).run Tryd.prog w = .ok 1 w := fun w => by
    cases hq : Tryd.prog.info? 5 with
    | none => have := info_u8; simp [hq] at this
    | some j =>
      have : j.size = 1 := by have := info_u8; simpa [hq] using this
      simp [sizeOf, typeInfo, hq, this]
  have hcell : ∀ j, j < s.size → (W.cell? ⟨b, 0 + j, none⟩).isSome = true := fun j hj => by
    rw [cell_of_heap h, Array.getElem?_eq_getElem (by rw [bC_size N [] (by simp)]; omega)]; rfl
  refine ⟨Go.run_copy_string (P := Tryd.prog) W 67 9 ty 5 b 0 N N s Tryd.underlying67 hsz hs hcell (fun j _ => frozen_of_heap h), ?_⟩
  have h1 := setCells_heap (cells s.data.toList) 0 W _ h
  have h2 := setAll_bytes N s.data.toList [] (by show 0 + s.size ≤ N; omega)
  rw [List.length_nil] at h2
  rw [h2] at h1; exact h1
theorem conv_heap (W : World) (b N n : Nat) (l : List UInt8) (t : TypeId) (h : W.heap[b]? = some (.cells (bC N l) t)) (hn : n = l.length) :
    (convert 67 9 (.slice (some ⟨b, 0, none⟩) n N)).run Tryd.prog W = .ok (.string ⟨l.toArray⟩) W := by
  subst hn
  refine run_convert_bytes_back (P := Tryd.prog) _ 67 9 5 ⟨b, 0, none⟩ N l Tryd.underlying67 Tryd.underlying5 Tryd.underlying9 (fun j hj => ?_)
  rw [Addr.add_mid, Nat.zero_add, cell_of_heap h]
  exact bC_at N l j hj
theorem forall_and_l {α : Type} [Inhabited α] {p : α → Prop} {q : Prop} (h : ∀ a, p a ∧ q) : (∀ a, p a) ∧ q := ⟨fun a => (h a).1, (h default).2⟩
theorem Tryd.zero64b : (Tryd.prog.info? 69).map (fun i => (i.zero, i.size)) = some (some (.agg (Array.replicate 64 (.int .u8 0))), 64) := by kernel_rfl
theorem bC_one (n : Nat) (l : List UInt8) : (bC n l).all (·.oneCell') = true := by
  rw [Array.all_eq_true_iff_forall_mem]
  intro v hv
  simp only [bC, Array.mem_append, List.mem_toArray, Array.mem_replicate] at hv
  rcases hv with h | ⟨_, rfl⟩
  · exact cells_one l v h
  · rfl
theorem bC_pad (k : List UInt8) : bC 64 (keyL k) = bC 64 (padK k) := (bC_zeros 64 (keyL k) _ (by have := keyL_len k; omega)).symm
end Go.Proofs.YthbbeojhipcjiaaDoor
namespace Go.Proofs.YthbbeojhipcjiaaDoor

inductive V where
  | mk (kind num : Int) (text : List UInt8) (list : List V) (keys : List (List UInt8))
def V.kind : V → Int
  | .mk k _ _ _ _ => k
def V.num : V → Int
  | .mk _ n _ _ _ => n
def V.text : V → List UInt8
  | .mk _ _ t _ _ => t
def V.list : V → List V
  | .mk _ _ _ l _ => l
def V.keys : V → List (List UInt8)
  | .mk _ _ _ _ ks => ks
def V.zero : V := .mk 0 0 [] [] []

/-- no two alike -/
def unlikeB : List (List UInt8) → Bool
  | [] => true
  | k :: r => !r.contains k && unlikeB r
/-- what a value must be by itself -/
def headB (k n : Int) (t : List UInt8) (ll : Nat) (ks : List (List UInt8)) : Bool :=
  decide (1 ≤ k ∧ k ≤ 6) && decide (k = 2 → n = 0 ∨ n = 1) && decide (k = 3 → -9007199254740992 ≤ n ∧ n ≤ 9007199254740992) && decide (k ≠ 2 → k ≠ 3 → n = 0) &&
  decide (k ≠ 4 → t = []) && decide (k ≠ 5 → k ≠ 6 → ll = 0) && decide (ll ≤ 64) && decide (k = 6 → ks.length = ll) && decide (k ≠ 6 → ks = []) && unlikeB ks
mutual
/-- good, and at most d deep -/
def V.fits : V → Nat → Bool
  | .mk k n t l ks, d => match d with
    | 0 => false
    | d + 1 => headB k n t l.length ks && V.fitsAll l d
def V.fitsAll : List V → Nat → Bool
  | [], _ => true
  | v :: r, d => v.fits d && V.fitsAll r d
end

/-! ## texts -/
def digit (n : Nat) : UInt8 := UInt8.ofNat (48 + n % 10)
/-- a number's digits -/
def decL (n : Nat) : List UInt8 := if n < 10 then [digit n] else decL (n / 10) ++ [digit n]
termination_by n
def decI (n : Int) : List UInt8 := if n < 0 then 45 :: decL n.natAbs else decL n.natAbs
def hexl (n : Nat) : UInt8 := if n < 10 then UInt8.ofNat (48 + n) else UInt8.ofNat (87 + n)
def quoteC (c : UInt8) : List UInt8 := if c = 34 ∨ c = 92 then [92, c] else if c.toNat < 32 then [92, 117, 48, 48, UInt8.ofNat (48 + c.toNat / 16), hexl (c.toNat % 16)] else [c]
/-- a text, as it stands: behind its first sign -/
def quoteT : List UInt8 → List UInt8
  | [] => [34]
  | c :: r => quoteC c ++ quoteT r
def quoteJ (t : List UInt8) : List UInt8 := 34 :: quoteT t
def nullT : List UInt8 := [110, 117, 108, 108]
def trueT : List UInt8 := [116, 114, 117, 101]
def falseT : List UInt8 := [102, 97, 108, 115, 101]
mutual
def V.show : V → List UInt8
  | .mk k n t l ks => if k = 1 then nullT else if k = 2 then (if n = 1 then trueT else falseT) else if k = 3 then decI n else if k = 4 then quoteJ t else
    if k = 5 then 91 :: (V.items l ++ [93]) else 123 :: (V.pairs l ks ++ [125])
/-- what stands in a list -/
def V.items : List V → List UInt8
  | [] => []
  | v :: r => v.show ++ V.itemsMore r
def V.itemsMore : List V → List UInt8
  | [] => []
  | v :: r => 44 :: (v.show ++ V.itemsMore r)
/-- what stands in an object -/
def V.pairs : List V → List (List UInt8) → List UInt8
  | [], _ => []
  | v :: r, ks => quoteJ (ks.headD []) ++ 58 :: (v.show ++ V.pairsMore r ks.tail)
def V.pairsMore : List V → List (List UInt8) → List UInt8
  | [], _ => []
  | v :: r, ks => 44 :: (quoteJ (ks.headD []) ++ 58 :: (v.show ++ V.pairsMore r ks.tail))
end

/-! ## the reader -/
def beginsB (s t : List UInt8) : Bool := s.take t.length == t
def isDigit (c : UInt8) : Bool := decide (48 ≤ c.toNat ∧ c.toNat ≤ 57)
/-- a hexadecimal digit's number; -1: none -/
def hexJ (c : UInt8) : Int := if 48 ≤ c.toNat ∧ c.toNat ≤ 57 then c.toNat - 48 else if 97 ≤ c.toNat ∧ c.toNat ≤ 102 then c.toNat - 87 else if 65 ≤ c.toNat ∧ c.toNat ≤ 70 then c.toNat - 55 else -1
/-- behind a text's first sign: the text, and how many bytes; none: there is no end -/
def wordT : List UInt8 → List UInt8 → Nat → Option (List UInt8 × Nat)
  | [], _, _ => none
  | c :: r, acc, n =>
    if c = 34 then some (acc, n + 1)
    else if c = 92 then
      match r with
      | e :: r' =>
        if e = 34 ∨ e = 92 then wordT r' (acc ++ [e]) (n + 2)
        else match r' with
          | x :: y :: h :: l :: r'' => if e = 117 ∧ x = 48 ∧ y = 48 ∧ 0 ≤ hexJ h ∧ 0 ≤ hexJ l then wordT r'' (acc ++ [UInt8.ofNat (16 * hexJ h + hexJ l).toNat]) (n + 6) else none
          | _ => none
      | [] => none
    else wordT r (acc ++ [c]) (n + 1)
/-- digits, at most so many: the number, and how many -/
def numT : List UInt8 → Nat → Int → Nat → Int × Nat
  | [], _, v, n => (v, n)
  | _, 0, v, n => (v, n)
  | c :: r, m + 1, v, n => if isDigit c then numT r m (v * 10 + (c.toNat - 48 : Int)) (n + 1) else (v, n)

theorem unlike_nodup (l : List (List UInt8)) : unlikeB l = true ↔ l.Nodup := by
  induction l with
  | nil => simp [unlikeB]
  | cons a r ih => simp [unlikeB, ih]

/-! ### a text is read again -/
theorem hexl_back (n : Nat) (h : n < 16) : hexJ (hexl n) = n := by
  have : ∀ n : Fin 16, hexJ (hexl n.val) = (n.val : Int) := by decide +kernel
  exact this ⟨n, h⟩
theorem hexs_back (n : Nat) (h : n < 2) : hexJ (UInt8.ofNat (48 + n)) = n := by
  have : ∀ n : Fin 2, hexJ (UInt8.ofNat (48 + n.val)) = (n.val : Int) := by decide +kernel
  exact this ⟨n, h⟩
theorem wordT_quote (t r acc : List UInt8) (n : Nat) : wordT (quoteT t ++ r) acc n = some (acc ++ t, n + (quoteT t).length) := by
  induction t generalizing acc n with
  | nil => rw [quoteT]; unfold wordT; simp
  | cons c t ih =>
    rw [quoteT]
    by_cases h : c = 34 ∨ c = 92
    · rw [quoteC, if_pos h, List.append_assoc]
      show wordT (92 :: c :: (quoteT t ++ r)) acc n = _
      unfold wordT
      rw [if_neg (by decide), if_pos rfl]
      simp only [h, if_true]
      rw [ih]; simp; omega
    · by_cases h2 : c.toNat < 32
      · rw [quoteC, if_neg h, if_pos h2, List.append_assoc]
        show wordT (92 :: 117 :: 48 :: 48 :: UInt8.ofNat (48 + c.toNat / 16) :: hexl (c.toNat % 16) :: (quoteT t ++ r)) acc n = _
        have e1 := hexs_back (c.toNat / 16) (by omega)
        have e2 := hexl_back (c.toNat % 16) (by omega)
        have e3 : UInt8.ofNat (16 * hexJ (UInt8.ofNat (48 + c.toNat / 16)) + hexJ (hexl (c.toNat % 16))).toNat = c := by
          rw [e1, e2]
          have : (16 * ((c.toNat / 16 : Nat) : Int) + ((c.toNat % 16 : Nat) : Int)).toNat = c.toNat := by omega
          rw [this]; exact UInt8.ofNat_toNat
        unfold wordT
        rw [if_neg (by decide), if_pos rfl]
        dsimp only
        rw [if_neg (by decide), if_pos ⟨rfl, rfl, rfl, by rw [e1]; omega, by rw [e2]; omega⟩, e3, ih]
        simp; omega
      · have h3 : c ≠ 34 := fun e => h (Or.inl e)
        have h4 : c ≠ 92 := fun e => h (Or.inr e)
        rw [quoteC, if_neg h, if_neg h2, List.append_assoc]
        show wordT (c :: (quoteT t ++ r)) acc n = _
        unfold wordT
        rw [if_neg h3, if_neg h4, ih]; simp; omega
/-! ### a number is read again -/
theorem digit_is (n : Nat) : isDigit (digit n) = true := by
  unfold isDigit digit
  have h : (UInt8.ofNat (48 + n % 10)).toNat = 48 + n % 10 := by rw [UInt8.toNat_ofNat']; omega
  rw [h]; simp; omega
theorem digit_val (n : Nat) : ((digit n).toNat : Int) - 48 = (n % 10 : Nat) := by
  unfold digit
  have h : (UInt8.ofNat (48 + n % 10)).toNat = 48 + n % 10 := by rw [UInt8.toNat_ofNat']; omega
  rw [h]; omega
theorem decL_pos (n : Nat) : 0 < (decL n).length := by
  unfold decL; split <;> simp
theorem decL_len (n : Nat) : ∀ k, n < 10 ^ k → 0 < k → (decL n).length ≤ k := by
  induction n using Nat.strongRecOn with
  | _ n ih =>
    intro k hk h0
    unfold decL
    split
    · simp; omega
    · rename_i h10
      obtain ⟨j, rfl⟩ : ∃ j, k = j + 1 := ⟨k - 1, by omega⟩
      have hj : n / 10 < 10 ^ j := by rw [Nat.pow_succ] at hk; omega
      have h0j : 0 < j := by
        rcases Nat.eq_zero_or_pos j with rfl | h
        · simp at hk; omega
        · exact h
      have := ih (n / 10) (by omega) j hj h0j
      rw [List.length_append, List.length_singleton]; omega
theorem numT_dec (n : Nat) : ∀ (r : List UInt8) (m k : Nat) (v : Int), (decL n).length ≤ m → numT (decL n ++ r) m v k = numT r (m - (decL n).length) (v * 10 ^ (decL n).length + n) (k + (decL n).length) := by
  induction n using Nat.strongRecOn with
  | _ n ih =>
    intro r m k v hm
    by_cases h : n < 10
    · have e : decL n = [digit n] := by unfold decL; rw [if_pos h]
      rw [e] at hm ⊢
      obtain ⟨j, rfl⟩ : ∃ j, m = j + 1 := ⟨m - 1, by simp at hm; omega⟩
      show numT (digit n :: r) (j + 1) v k = _
      rw [numT, if_pos (digit_is n), digit_val]
      simp [Nat.mod_eq_of_lt h]
    · have e : decL n = decL (n / 10) ++ [digit n] := by rw [decL, if_neg h]
      rw [e] at hm ⊢
      have hl : (decL (n / 10)).length + 1 ≤ m := by simpa using hm
      rw [List.append_assoc, ih (n / 10) (by omega) _ m k v (by omega)]
      obtain ⟨j, hj⟩ : ∃ j, m - (decL (n / 10)).length = j + 1 := ⟨m - (decL (n / 10)).length - 1, by omega⟩
      rw [hj]
      show numT (digit n :: r) (j + 1) _ _ = _
      rw [numT, if_pos (digit_is n), digit_val, List.length_append, List.length_singleton]
      have e2 : m - ((decL (n / 10)).length + 1) = j := by omega
      rw [e2]
      congr 1
      rw [Int.pow_succ]
      have : (n : Int) = (n / 10 : Nat) * 10 + (n % 10 : Nat) := by omega
      rw [Int.add_mul, Int.mul_assoc, Int.add_assoc]
      omega
/-- where no digit stands, no more is read -/
def noDigit : List UInt8 → Bool
  | [] => true
  | c :: _ => !isDigit c
theorem numT_stop (r : List UInt8) (m : Nat) (v : Int) (k : Nat) (h : noDigit r = true) : numT r m v k = (v, k) := by
  cases r with
  | nil => rfl
  | cons c r =>
    cases m with
    | zero => rfl
    | succ m => rw [numT]; simp only [noDigit, Bool.not_eq_true'] at h; rw [h]; rfl
end Go.Proofs.YthbbeojhipcjiaaDoor
namespace Go.Proofs.YthbbeojhipcjiaaDoor

/-- {"alg":"HS256","kid": and the name -/
def headT (id : List UInt8) : List UInt8 := [123, 34, 97, 108, 103, 34, 58, 34, 72, 83, 50, 53, 54, 34, 44, 34, 107, 105, 100, 34, 58] ++ quoteJ id ++ [125]
def frontT (id p : List UInt8) : List UInt8 := enc (headT id) ++ [46] ++ enc p
def signT (id sec p : List UInt8) : List UInt8 := frontT id p ++ [46] ++ enc (macL sec (frontT id p))
/-- the secret of the first key that has this head -/
def findK : PL → List UInt8 → Option (List UInt8)
  | [], _ => none
  | k :: r, x => if headT k.1 = x then some k.2 else findK r x
/-- what three parts are a token of -/
def verP (keys : PL) (a b c : List UInt8) : List UInt8 × Int :=
  match dec a, dec b, dec c with
  | some x, some y, some z => match findK keys x with
    | some sec => if macL sec (a ++ [46] ++ b) = z then (y, 0) else ([], 5)
    | none => ([], 5)
  | _, _, _ => ([], 2)
def verS (keys : PL) : List (List UInt8) → List UInt8 × Int
  | [a, b, c] => verP keys a b c
  | _ => ([], 2)
def verR (keys : PL) (l : List UInt8) : List UInt8 × Int := if 4096 < l.length then ([], 3) else verS keys (splitL 46 l)

theorem verR_large {keys : PL} {l : List UInt8} (h : 4096 < l.length) : verR keys l = ([], 3) := if_pos h
theorem verR_small {keys : PL} {l : List UInt8} (h : ¬ 4096 < l.length) : verR keys l = verS keys (splitL 46 l) := if_neg h
theorem verS_three {keys : PL} {l : List (List UInt8)} (h : l.length = 3) : ∃ a b c, l = [a, b, c] ∧ verS keys l = verP keys a b c := by
  match l, h with
  | [a, b, c], _ => exact ⟨a, b, c, rfl, rfl⟩
theorem verS_other {keys : PL} {l : List (List UInt8)} (h : l.length ≠ 3) : verS keys l = ([], 2) := by
  match l, h with
  | [], _ => rfl
  | [_], _ => rfl
  | [_, _], _ => rfl
  | [a, b, c], h => exact absurd rfl h
  | _ :: _ :: _ :: _ :: _, _ => rfl
theorem verP_none1 {keys : PL} {a b c : List UInt8} (h : dec a = none) : verP keys a b c = ([], 2) := by unfold verP; rw [h]
theorem verP_none2 {keys : PL} {a b c : List UInt8} (h : dec b = none) : verP keys a b c = ([], 2) := by
  unfold verP; rw [h]; cases dec a <;> rfl
theorem verP_none3 {keys : PL} {a b c : List UInt8} (h : dec c = none) : verP keys a b c = ([], 2) := by
  unfold verP; rw [h]; cases dec a <;> cases dec b <;> rfl
theorem verP_miss {keys : PL} {a b c x y z : List UInt8} (ha : dec a = some x) (hb : dec b = some y) (hc : dec c = some z) (h : findK keys x = none) : verP keys a b c = ([], 5) := by
  unfold verP; rw [ha, hb, hc]; simp only [h]
theorem verP_bad {keys : PL} {a b c x y z sec : List UInt8} (ha : dec a = some x) (hb : dec b = some y) (hc : dec c = some z) (h : findK keys x = some sec) (hm : macL sec (a ++ [46] ++ b) ≠ z) : verP keys a b c = ([], 5) := by
  unfold verP; rw [ha, hb, hc]; simp only [h]; rw [if_neg hm]
theorem verP_good {keys : PL} {a b c x y z sec : List UInt8} (ha : dec a = some x) (hb : dec b = some y) (hc : dec c = some z) (h : findK keys x = some sec) (hm : macL sec (a ++ [46] ++ b) = z) : verP keys a b c = (y, 0) := by
  unfold verP; rw [ha, hb, hc]; simp only [h]; rw [if_pos hm]
theorem findK_hit {keys : PL} {x : List UInt8} (k : Nat) (h : k < keys.length) (hx : headT keys[k].1 = x) (hb : ∀ j (hj : j < k), headT (keys[j]'(by omega)).1 ≠ x) : findK keys x = some keys[k].2 := by
  induction keys generalizing k with
  | nil => simp at h
  | cons p r ih =>
    cases k with
    | zero => simp only [findK]; rw [if_pos (by simpa using hx)]; rfl
    | succ k =>
      have h0 : headT p.1 ≠ x := hb 0 (by omega)
      simp only [findK]; rw [if_neg h0]
      exact ih k (by simpa using h) (by simpa using hx) (fun j hj => by have := hb (j + 1) (by omega); simpa using this)
theorem findK_miss {keys : PL} {x : List UInt8} (hb : ∀ j (hj : j < keys.length), headT keys[j].1 ≠ x) : findK keys x = none := by
  induction keys with
  | nil => rfl
  | cons p r ih =>
    have h0 : headT p.1 ≠ x := hb 0 (by simp)
    simp only [findK]; rw [if_neg h0]
    exact ih (fun j hj => by have := hb (j + 1) (by simp; omega); simpa using this)

/-! ### a token is read again -/
theorem ix_dot : ix 46 = -1 := by decide +kernel
theorem ds_dot {l : List Nat} (h : ∀ d ∈ l, d < 64) : (46 : UInt8) ∉ ds l := by
  intro hm
  obtain ⟨d, hd, he⟩ := List.mem_map.1 hm
  have h1 := ix_ltr d (h d hd)
  rw [he, ix_dot] at h1
  omega
theorem enc_dot (l : List UInt8) : (46 : UInt8) ∉ enc l := by
  rcases letters (enc l) with ⟨l', e, h⟩ | ⟨p, c, r, e, hp, hc⟩
  · rw [e]; exact ds_dot h
  · have h1 := unS_enc l
    rw [e, unS_none p c r hp hc] at h1
    cases h1
theorem splitL_app (c : UInt8) (a b : List UInt8) (h : c ∉ a) : splitL c (a ++ [c] ++ b) = a :: splitL c b := by
  have ha : atL c (a ++ [c] ++ b) = a.length := by
    rw [List.append_assoc, atL_app c a _ h]; simp [atL]
  have hl : atL c (a ++ [c] ++ b) < (a ++ [c] ++ b).length := by rw [ha]; simp
  rw [splitL_more hl, ha]
  simp
theorem splitL_none (c : UInt8) (a : List UInt8) (h : c ∉ a) : splitL c a = [a] := splitL_last (by rw [atL_none _ _ h]; exact Nat.le_refl _)
theorem splitL_token (a b c : List UInt8) (ha : (46 : UInt8) ∉ a) (hb : (46 : UInt8) ∉ b) (hc : (46 : UInt8) ∉ c) : splitL 46 (a ++ [46] ++ b ++ [46] ++ c) = [a, b, c] := by
  have e : a ++ [46] ++ b ++ [46] ++ c = a ++ [46] ++ (b ++ [46] ++ c) := by simp
  rw [e, splitL_app 46 a _ ha, splitL_app 46 b _ hb, splitL_none 46 c hc]
theorem verR_sign {id sec p : List UInt8} (more : PL) (h : (signT id sec p).length ≤ 4096) : verR ((id, sec) :: more) (signT id sec p) = (p, 0) := by
  rw [verR_small (by omega)]
  have e : splitL 46 (signT id sec p) = [enc (headT id), enc p, enc (macL sec (frontT id p))] := splitL_token _ _ _ (enc_dot _) (enc_dot _) (enc_dot _)
  rw [e, show verS ((id, sec) :: more) [enc (headT id), enc p, enc (macL sec (frontT id p))] = verP ((id, sec) :: more) (enc (headT id)) (enc p) (enc (macL sec (frontT id p))) from by simp only [verS]]
  obtain ⟨M, hM⟩ : ∃ M, macL sec (frontT id p) = M := ⟨_, rfl⟩
  rw [hM]
  exact verP_good (dec_enc _) (dec_enc _) (dec_enc _) (by show (if headT id = headT id then some sec else findK more (headT id)) = some sec; rw [if_pos rfl]) (by rw [← hM, frontT])
theorem quoteT_le (l : List UInt8) : (quoteT l).length ≤ 6 * l.length + 1 := by
  induction l with
  | nil => simp [quoteT]
  | cons c r ih =>
    have h1 : (quoteC c).length ≤ 6 := by unfold quoteC; split; · simp
                                          split <;> simp
    rw [quoteT, List.length_append, List.length_cons]; omega
theorem headT_le (id : List UInt8) : (headT id).length ≤ 6 * id.length + 24 := by
  have := quoteT_le id
  simp [headT, quoteJ]; omega
theorem verP_head {keys : PL} {h p z : List UInt8} (zt : List UInt8) (hz : dec zt = some z) (hk : findK keys h = none) : verP keys (enc h) (enc p) zt = ([], 5) := verP_miss (dec_enc _) (dec_enc _) hz hk
/-- a head that is no key's -/
theorem verR_head {keys : PL} {h p z : List UInt8} (zt : List UInt8) (hd : (46 : UInt8) ∉ zt) (hz : dec zt = some z) (hk : findK keys h = none) (hl : (enc h ++ [46] ++ enc p ++ [46] ++ zt).length ≤ 4096) :
    verR keys (enc h ++ [46] ++ enc p ++ [46] ++ zt) = ([], 5) := by
  rw [verR_small (by omega), splitL_token _ _ _ (enc_dot _) (enc_dot _) hd]
  rw [show verS keys [enc h, enc p, zt] = verP keys (enc h) (enc p) zt from by simp only [verS]]
  exact verP_head zt hz hk
end Go.Proofs.YthbbeojhipcjiaaDoor
namespace Go.Proofs.YthbbeojhipcjiaaDoor

mutual
/-- the value at the front, and how many bytes it takes (0: there is none) -/
def valueT : Nat → List UInt8 → V × Nat
  | 0, _ => (V.zero, 0)
  | f + 1, s =>
    if beginsB s nullT then (.mk 1 0 [] [] [], 4) else if beginsB s trueT then (.mk 2 1 [] [] [], 4) else if beginsB s falseT then (.mk 2 0 [] [] [], 5)
    else if beginsB s [34] then (match wordT (s.drop 1) [] 1 with
      | some (t, n) => (.mk 4 0 t [] [], n)
      | none => (.mk 4 0 [] [] [], 0))
    else if beginsB s [91] then (if beginsB (s.drop 1) [93] then (.mk 5 0 [] [] [], 2) else loopT f false (s.drop 1) 1 [] [])
    else if beginsB s [123] then (if beginsB (s.drop 1) [125] then (.mk 6 0 [] [] [], 2) else loopT f true (s.drop 1) 1 [] [])
    else if beginsB s [45] then (match numT (s.drop 1) 17 0 1 with
      | (v, n) => (.mk 3 (-v) [] [] [], n))
    else match numT s 18 0 0 with
      | (v, n) => (.mk 3 v [] [] [], n)
/-- what a list, or an object, holds: what is left, how many bytes are behind, the keys and the values so far -/
def loopT : Nat → Bool → List UInt8 → Nat → List (List UInt8) → List V → V × Nat
  | 0, _, _, _, _, _ => (V.zero, 0)
  | f + 1, obj, s, n, ks, l =>
    match (if obj then (if beginsB s [34] then (match wordT (s.drop 1) [] 1 with
      | some (t, k) => if beginsB (s.drop k) [58] then some (ks ++ [t], k + 1) else none
      | none => none) else none) else some (ks, 0)) with
    | none => (.mk (if obj then 6 else 5) 0 [] l ks, 0)
    | some (ks', j) =>
      match valueT f (s.drop j) with
      | (x, k) =>
        if k = 0 then (.mk (if obj then 6 else 5) 0 [] l ks', 0)
        else if beginsB (s.drop (j + k)) [if obj then 125 else 93] then (.mk (if obj then 6 else 5) 0 [] (l ++ [x]) ks', n + j + k + 1)
        else if beginsB (s.drop (j + k)) [44] then loopT f obj (s.drop (j + k + 1)) (n + j + k + 1) ks' (l ++ [x])
        else (.mk (if obj then 6 else 5) 0 [] (l ++ [x]) ks', 0)
end
mutual
def V.size : V → Nat
  | .mk _ _ _ l _ => 2 + V.sizes l
def V.sizes : List V → Nat
  | [] => 0
  | v :: r => 1 + v.size + V.sizes r
end
theorem begins_app (t r : List UInt8) : beginsB (t ++ r) t = true := by simp [beginsB]
theorem begins_cons (c d : UInt8) (r : List UInt8) : beginsB (c :: r) [d] = (c == d) := by simp [beginsB]
theorem begins_first (c d : UInt8) (r t : List UInt8) (h : c ≠ d) : beginsB (c :: r) (d :: t) = false := by
  simp [beginsB, h]
theorem b_null {c : UInt8} {r : List UInt8} (h : c ≠ 110) : beginsB (c :: r) nullT = false := begins_first _ _ _ _ h
theorem b_true {c : UInt8} {r : List UInt8} (h : c ≠ 116) : beginsB (c :: r) trueT = false := begins_first _ _ _ _ h
theorem b_false {c : UInt8} {r : List UInt8} (h : c ≠ 102) : beginsB (c :: r) falseT = false := begins_first _ _ _ _ h
theorem b_one {c d : UInt8} {r : List UInt8} (h : c ≠ d) : beginsB (c :: r) [d] = false := begins_first _ _ _ _ h
theorem b_same {d : UInt8} {r : List UInt8} : beginsB (d :: r) [d] = true := by rw [begins_cons]; simp
theorem show_pos (v : V) : 0 < v.show.length := by
  match v with
  | .mk k n t l ks =>
    unfold V.show decI quoteJ
    split
    · decide
    · split
      · split <;> decide
      · split
        · split
          · simp
          · exact decL_pos _
        · split
          · simp
          · split <;> simp
structure HeadIs (k n : Int) (t : List UInt8) (ll : Nat) (ks : List (List UInt8)) : Prop where
  kind : 1 ≤ k ∧ k ≤ 6
  bool : k = 2 → n = 0 ∨ n = 1
  num : k = 3 → -9007199254740992 ≤ n ∧ n ≤ 9007199254740992
  zero : k ≠ 2 → k ≠ 3 → n = 0
  text : k ≠ 4 → t = []
  list : k ≠ 5 → k ≠ 6 → ll = 0
  most : ll ≤ 64
  keys : k = 6 → ks.length = ll
  none : k ≠ 6 → ks = []
  unlike : unlikeB ks = true
theorem head_says {k n : Int} {t : List UInt8} {ll : Nat} {ks : List (List UInt8)} (h : headB k n t ll ks = true) : HeadIs k n t ll ks := by
  unfold headB at h
  simp only [Bool.and_eq_true, decide_eq_true_eq] at h
  obtain ⟨⟨⟨⟨⟨⟨⟨⟨⟨h1, h2⟩, h3⟩, h4⟩, h5⟩, h6⟩, h7⟩, h8⟩, h9⟩, h10⟩ := h
  exact ⟨h1, h2, h3, h4, h5, h6, h7, h8, h9, h10⟩
theorem zero_list {l : List V} (h : l.length = 0) : l = [] := List.length_eq_zero_iff.1 h
theorem decI_len (n : Int) (h : -9007199254740992 ≤ n ∧ n ≤ 9007199254740992) : (decL n.natAbs).length ≤ 16 := decL_len n.natAbs 16 (by have : (10 : Nat) ^ 16 = 10000000000000000 := by decide
                                                                                                                                        omega) (by decide)
theorem decL_first (n : Nat) : ∃ c r, decL n = c :: r ∧ isDigit c = true := by
  induction n using Nat.strongRecOn with
  | _ n ih =>
    by_cases h : n < 10
    · exact ⟨digit n, [], by unfold decL; rw [if_pos h], digit_is n⟩
    · obtain ⟨c, r, e, hc⟩ := ih (n / 10) (by omega)
      exact ⟨c, r ++ [digit n], by rw [decL, if_neg h, e]; rfl, hc⟩
theorem digit_ne {c d : UInt8} (h : isDigit c = true) (hd : isDigit d = false) : c ≠ d := fun e => by rw [e, hd] at h; cases h
theorem numT_whole (n : Nat) (r : List UInt8) (m k : Nat) (hl : (decL n).length ≤ m) (hr : noDigit r = true) : numT (decL n ++ r) m 0 k = ((n : Int), k + (decL n).length) := by
  rw [numT_dec n r m k 0 hl, numT_stop _ _ _ _ hr]; simp
theorem number_back (n : Int) (hn : -9007199254740992 ≤ n ∧ n ≤ 9007199254740992) (f : Nat) (r : List UInt8) (hr : noDigit r = true) : valueT (f + 1) (decI n ++ r) = (.mk 3 n [] [] [], (decI n).length) := by
  have hl := decI_len n hn
  obtain ⟨c, r', e, hc⟩ := decL_first n.natAbs
  unfold decI
  by_cases h : n < 0
  · rw [if_pos h]
    show valueT (f + 1) (45 :: (decL n.natAbs ++ r)) = _
    unfold valueT
    rw [b_null (by decide), b_true (by decide), b_false (by decide), b_one (d := 34) (by decide), b_one (d := 91) (by decide), b_one (d := 123) (by decide), b_same]
    simp only [Bool.false_eq_true, if_false, if_true, List.drop_succ_cons, List.drop_zero]
    rw [numT_whole n.natAbs r 17 1 (by omega) hr]
    simp only [Prod.mk.injEq, V.mk.injEq, and_true, true_and]
    refine ⟨by omega, ?_⟩
    simp; omega
  · rw [if_neg h]
    have hw := numT_whole n.natAbs r 18 0 (by omega) hr
    rw [e] at hw ⊢
    show valueT (f + 1) (c :: (r' ++ r)) = _
    unfold valueT
    rw [b_null (digit_ne hc rfl), b_true (digit_ne hc rfl), b_false (digit_ne hc rfl), b_one (d := 34) (digit_ne hc rfl), b_one (d := 91) (digit_ne hc rfl), b_one (d := 123) (digit_ne hc rfl), b_one (d := 45) (digit_ne hc rfl)]
    simp only [Bool.false_eq_true, if_false]
    have hw' : numT (c :: (r' ++ r)) 18 0 0 = (((n.natAbs : Nat) : Int), 0 + (c :: r').length) := hw
    rw [hw']
    simp only [Prod.mk.injEq, V.mk.injEq, and_true, true_and, Nat.zero_add]
    omega
theorem wordT_at (t r : List UInt8) : wordT (quoteT t ++ r) [] 1 = some (t, 1 + (quoteT t).length) := by
  have := wordT_quote t r [] 1; simpa using this
theorem text_back (t : List UInt8) (f : Nat) (r : List UInt8) : valueT (f + 1) (quoteJ t ++ r) = (.mk 4 0 t [] [], (quoteJ t).length) := by
  unfold quoteJ
  show valueT (f + 1) (34 :: (quoteT t ++ r)) = _
  unfold valueT
  rw [b_null (by decide), b_true (by decide), b_false (by decide), b_same]
  simp only [Bool.false_eq_true, if_false, if_true, List.drop_succ_cons, List.drop_zero]
  rw [wordT_at]
  simp; omega
theorem drop_app (a b : List UInt8) : (a ++ b).drop a.length = b := by simp
theorem noDigit_cons {c : UInt8} {r : List UInt8} (h : isDigit c = false) : noDigit (c :: r) = true := by simp [noDigit, h]
theorem show_first (v : V) : ∃ c r, v.show = c :: r ∧ c ≠ 93 := by
  match v with
  | .mk k n t l ks =>
    unfold V.show decI quoteJ
    split
    · exact ⟨110, [117, 108, 108], rfl, by decide⟩
    · split
      · split
        · exact ⟨116, [114, 117, 101], rfl, by decide⟩
        · exact ⟨102, [97, 108, 115, 101], rfl, by decide⟩
      · split
        · split
          · exact ⟨45, _, rfl, by decide⟩
          · obtain ⟨c, r, e, hc⟩ := decL_first n.natAbs
            exact ⟨c, r, e, digit_ne hc rfl⟩
        · split
          · exact ⟨34, _, rfl, by decide⟩
          · split
            · exact ⟨91, _, rfl, by decide⟩
            · exact ⟨123, _, rfl, by decide⟩
theorem list_back (f : Nat) (c : UInt8) (r : List UInt8) (hc : c ≠ 93) : valueT (f + 1) (91 :: c :: r) = loopT f false (c :: r) 1 [] [] := by
  conv => lhs; unfold valueT
  rw [b_null (by decide), b_true (by decide), b_false (by decide), b_one (d := 34) (by decide), b_same]
  simp only [Bool.false_eq_true, if_false, if_true, List.drop_succ_cons, List.drop_zero]
  rw [b_one hc]; simp
theorem object_back (f : Nat) (r : List UInt8) : valueT (f + 1) (123 :: 34 :: r) = loopT f true (34 :: r) 1 [] [] := by
  conv => lhs; unfold valueT
  rw [b_null (by decide), b_true (by decide), b_false (by decide), b_one (d := 34) (by decide), b_one (d := 91) (by decide), b_same]
  simp only [Bool.false_eq_true, if_false, if_true, List.drop_succ_cons, List.drop_zero]
  rw [b_one (by decide)]; simp
theorem empty_list (f : Nat) (r : List UInt8) : valueT (f + 1) (91 :: 93 :: r) = (.mk 5 0 [] [] [], 2) := by
  conv => lhs; unfold valueT
  rw [b_null (by decide), b_true (by decide), b_false (by decide), b_one (d := 34) (by decide), b_same]
  simp only [Bool.false_eq_true, if_false, if_true, List.drop_succ_cons, List.drop_zero]
  rw [b_same]; simp
theorem empty_object (f : Nat) (r : List UInt8) : valueT (f + 1) (123 :: 125 :: r) = (.mk 6 0 [] [] [], 2) := by
  conv => lhs; unfold valueT
  rw [b_null (by decide), b_true (by decide), b_false (by decide), b_one (d := 34) (by decide), b_one (d := 91) (by decide), b_same]
  simp only [Bool.false_eq_true, if_false, if_true, List.drop_succ_cons, List.drop_zero]
  rw [b_same]; simp
theorem null_back (f : Nat) (r : List UInt8) : valueT (f + 1) (nullT ++ r) = (.mk 1 0 [] [] [], 4) := by
  unfold valueT; rw [begins_app, if_pos rfl]
theorem true_back (f : Nat) (r : List UInt8) : valueT (f + 1) (trueT ++ r) = (.mk 2 1 [] [] [], 4) := by
  unfold valueT
  have e : beginsB (trueT ++ r) nullT = false := b_null (by decide)
  rw [e, begins_app]; simp
theorem false_back (f : Nat) (r : List UInt8) : valueT (f + 1) (falseT ++ r) = (.mk 2 0 [] [] [], 5) := by
  unfold valueT
  have e : beginsB (falseT ++ r) nullT = false := b_null (by decide)
  have e2 : beginsB (falseT ++ r) trueT = false := b_true (by decide)
  rw [e, e2, begins_app]; simp
/-- one item of a list -/
theorem loop_item (f : Nat) (v : V) (rest : List UInt8) (n : Nat) (l : List V) (hv : ∀ r, noDigit r = true → valueT f (v.show ++ r) = (v, v.show.length)) :
    loopT (f + 1) false (v.show ++ 93 :: rest) n [] l = (.mk 5 0 [] (l ++ [v]) [], n + v.show.length + 1) ∧
    loopT (f + 1) false (v.show ++ 44 :: rest) n [] l = loopT f false rest (n + v.show.length + 1) [] (l ++ [v]) := by
  have hp := show_pos v
  constructor
  · conv => lhs; unfold loopT
    simp only [Bool.false_eq_true, if_false, List.drop_zero]
    rw [hv _ (noDigit_cons rfl)]
    simp only [Nat.zero_add]
    rw [if_neg (by omega), drop_app, b_same, if_pos rfl]
    simp
  · conv => lhs; unfold loopT
    simp only [Bool.false_eq_true, if_false, List.drop_zero]
    rw [hv _ (noDigit_cons rfl)]
    simp only [Nat.zero_add]
    rw [if_neg (by omega), drop_app, b_one (d := 93) (by decide), b_same]
    simp only [Bool.false_eq_true, if_false, if_true]
    have e : (v.show ++ 44 :: rest).drop (v.show.length + 1) = rest := by
      rw [← List.drop_drop, drop_app]; rfl
    rw [e]
    simp
/-- one pair of an object -/
theorem loop_pair (f : Nat) (k : List UInt8) (v : V) (rest : List UInt8) (n : Nat) (ks : List (List UInt8)) (l : List V) (hv : ∀ r, noDigit r = true → valueT f (v.show ++ r) = (v, v.show.length)) :
    loopT (f + 1) true (quoteJ k ++ 58 :: (v.show ++ 125 :: rest)) n ks l = (.mk 6 0 [] (l ++ [v]) (ks ++ [k]), n + ((quoteJ k).length + 1 + v.show.length) + 1) ∧
    loopT (f + 1) true (quoteJ k ++ 58 :: (v.show ++ 44 :: rest)) n ks l = loopT f true rest (n + ((quoteJ k).length + 1 + v.show.length) + 1) (ks ++ [k]) (l ++ [v]) := by
  have hp := show_pos v
  have hq : (quoteJ k).length = 1 + (quoteT k).length := by unfold quoteJ; rw [List.length_cons]; omega
  have e1 : ∀ r : List UInt8, beginsB (quoteJ k ++ r) [34] = true := fun r => by unfold quoteJ; exact b_same
  have e2 : ∀ r : List UInt8, wordT ((quoteJ k ++ r).drop 1) [] 1 = some (k, (quoteJ k).length) := fun r => by
    rw [hq]; unfold quoteJ; exact wordT_at k r
  have e3 : ∀ r : List UInt8, (quoteJ k ++ 58 :: r).drop ((quoteJ k).length + 1) = r := fun r => by rw [← List.drop_drop, drop_app]; rfl
  have e4 : ∀ (r : List UInt8) (j : Nat), (quoteJ k ++ 58 :: r).drop ((quoteJ k).length + 1 + j) = r.drop j := fun r j => by rw [← List.drop_drop, e3]
  constructor
  · conv => lhs; unfold loopT
    simp only [if_true, e1, e2, drop_app, b_same]
    rw [e3, hv _ (noDigit_cons rfl)]
    simp only
    rw [if_neg (by omega), e4, drop_app, b_same, if_pos rfl]
    simp; omega
  · conv => lhs; unfold loopT
    simp only [if_true, e1, e2, drop_app, b_same]
    rw [e3, hv _ (noDigit_cons rfl)]
    simp only
    rw [if_neg (by omega), e4, drop_app, b_one (d := 125) (by decide), b_same]
    simp only [Bool.false_eq_true, if_false, if_true]
    have e : (v.show ++ 44 :: rest).drop (v.show.length + 1) = rest := by
      rw [← List.drop_drop, drop_app]; rfl
    rw [show (quoteJ k).length + 1 + v.show.length + 1 = (quoteJ k).length + 1 + (v.show.length + 1) by omega, e4, e]
    congr 1
    omega
/-- what the reader answers, with so much to go: a value's text; what is left of a list; of an object -/
def BackV (f : Nat) : Prop := ∀ (v : V) (d : Nat) (r : List UInt8), v.fits d = true → v.size ≤ f → noDigit r = true → valueT f (v.show ++ r) = (v, v.show.length)
def BackL (f : Nat) : Prop := ∀ (v : V) (l : List V) (d n : Nat) (acc : List V) (r : List UInt8), v.fits d = true → V.fitsAll l d = true → 1 + v.size + V.sizes l ≤ f →
    loopT f false (v.show ++ V.itemsMore l ++ 93 :: r) n [] acc = (.mk 5 0 [] (acc ++ v :: l) [], n + (v.show ++ V.itemsMore l).length + 1)
def BackO (f : Nat) : Prop := ∀ (k : List UInt8) (v : V) (l : List V) (ks : List (List UInt8)) (d n : Nat) (akc : List (List UInt8)) (acc : List V) (r : List UInt8), v.fits d = true → V.fitsAll l d = true → 1 + v.size + V.sizes l ≤ f → ks.length = l.length →
    loopT f true (quoteJ k ++ 58 :: (v.show ++ V.pairsMore l ks ++ 125 :: r)) n akc acc = (.mk 6 0 [] (acc ++ v :: l) (akc ++ k :: ks), n + (quoteJ k ++ 58 :: (v.show ++ V.pairsMore l ks)).length + 1)
theorem size_pos (v : V) : 2 ≤ v.size := by
  match v with
  | .mk _ _ _ _ _ => unfold V.size; omega
theorem backV (f : Nat) (ihQ : BackL f) (ihR : BackO f) : BackV (f + 1) := by
  intro v d r hf hs hr
  obtain ⟨k, n, t, l, ks⟩ := v
  cases d with
  | zero => unfold V.fits at hf; cases hf
  | succ d =>
      unfold V.fits at hf
      simp only [Bool.and_eq_true] at hf
      obtain ⟨hh, hl⟩ := hf
      have H := head_says hh
      have hs' : 2 + V.sizes l ≤ f + 1 := by unfold V.size at hs; exact hs
      obtain ⟨h1, h6⟩ := H.kind
      have hk : k = 1 ∨ k = 2 ∨ k = 3 ∨ k = 4 ∨ k = 5 ∨ k = 6 := by omega
      rcases hk with rfl | rfl | rfl | rfl | rfl | rfl
      · obtain rfl := H.zero (by decide) (by decide)
        obtain rfl := H.text (by decide)
        obtain rfl := zero_list (H.list (by decide) (by decide))
        obtain rfl := H.none (by decide)
        have e : (V.mk 1 0 [] [] []).show = nullT := by unfold V.show; simp
        rw [e]; exact null_back f r
      · obtain rfl := H.text (by decide)
        obtain rfl := zero_list (H.list (by decide) (by decide))
        obtain rfl := H.none (by decide)
        rcases H.bool rfl with rfl | rfl
        · have e : (V.mk 2 0 [] [] []).show = falseT := by unfold V.show; simp
          rw [e]; exact false_back f r
        · have e : (V.mk 2 1 [] [] []).show = trueT := by unfold V.show; simp
          rw [e]; exact true_back f r
      · obtain rfl := H.text (by decide)
        obtain rfl := zero_list (H.list (by decide) (by decide))
        obtain rfl := H.none (by decide)
        have e : (V.mk 3 n [] [] []).show = decI n := by unfold V.show; simp
        rw [e]
        exact number_back n (H.num rfl) f r hr
      · obtain rfl := H.zero (by decide) (by decide)
        obtain rfl := zero_list (H.list (by decide) (by decide))
        obtain rfl := H.none (by decide)
        have e : (V.mk 4 0 t [] []).show = quoteJ t := by unfold V.show; simp
        rw [e]
        exact text_back t f r
      · obtain rfl := H.zero (by decide) (by decide)
        obtain rfl := H.text (by decide)
        obtain rfl := H.none (by decide)
        have e : (V.mk 5 0 [] l []).show = 91 :: (V.items l ++ [93]) := by unfold V.show; simp
        rw [e]
        rcases l with _ | ⟨v, l⟩
        · have e1 : V.items [] = [] := by unfold V.items; rfl
          rw [e1]; exact empty_list f r
        · unfold V.fitsAll at hl
          simp only [Bool.and_eq_true] at hl
          unfold V.sizes at hs'
          obtain ⟨c, rr, ec, hc⟩ := show_first v
          have h2 := ihQ v l d 1 [] r hl.1 hl.2 (by omega)
          have e2 : 91 :: (V.items (v :: l) ++ [93]) ++ r = 91 :: (v.show ++ V.itemsMore l ++ 93 :: r) := by
            conv => lhs; unfold V.items
            simp
          rw [e2]
          have e3 : v.show ++ V.itemsMore l ++ 93 :: r = c :: (rr ++ V.itemsMore l ++ 93 :: r) := by rw [ec]; rfl
          have h1 := list_back f c (rr ++ V.itemsMore l ++ 93 :: r) hc
          rw [← e3] at h1
          rw [h1, h2]
          conv => rhs; unfold V.items
          simp; omega
      · obtain rfl := H.zero (by decide) (by decide)
        obtain rfl := H.text (by decide)
        have e : (V.mk 6 0 [] l ks).show = 123 :: (V.pairs l ks ++ [125]) := by unfold V.show; simp
        rw [e]
        have hkl := H.keys rfl
        rcases l with _ | ⟨v, l⟩
        · obtain rfl := List.length_eq_zero_iff.1 hkl
          have e1 : V.pairs [] [] = [] := by unfold V.pairs; rfl
          rw [e1]; exact empty_object f r
        · rcases ks with _ | ⟨k, ks⟩
          · simp at hkl
          unfold V.fitsAll at hl
          simp only [Bool.and_eq_true] at hl
          unfold V.sizes at hs'
          have h2 := ihR k v l ks d 1 [] [] r hl.1 hl.2 (by omega) (by simpa using hkl)
          have e2 : 123 :: (V.pairs (v :: l) (k :: ks) ++ [125]) ++ r = 123 :: 34 :: (quoteT k ++ 58 :: (v.show ++ V.pairsMore l ks ++ 125 :: r)) := by
            conv => lhs; unfold V.pairs
            simp [quoteJ]
          rw [e2, object_back]
          have e3 : 34 :: (quoteT k ++ 58 :: (v.show ++ V.pairsMore l ks ++ 125 :: r)) = quoteJ k ++ 58 :: (v.show ++ V.pairsMore l ks ++ 125 :: r) := rfl
          rw [e3, h2]
          conv => rhs; unfold V.pairs
          simp; omega
theorem backL (f : Nat) (ihP : BackV f) (ihQ : BackL f) : BackL (f + 1) := by
  intro v l d n acc r hv hl hs
  rcases l with _ | ⟨u, l⟩
  · have e1 : V.itemsMore [] = [] := by unfold V.itemsMore; rfl
    rw [e1, List.append_nil]
    exact (loop_item f v r n acc (fun r' hr' => ihP v d r' hv (by omega) hr')).1
  · unfold V.fitsAll at hl
    simp only [Bool.and_eq_true] at hl
    unfold V.sizes at hs
    have h1 := (loop_item f v (u.show ++ V.itemsMore l ++ 93 :: r) n acc (fun r' hr' => ihP v d r' hv (by omega) hr')).2
    have h2 := ihQ u l d (n + v.show.length + 1) (acc ++ [v]) r hl.1 hl.2 (by omega)
    have e : v.show ++ V.itemsMore (u :: l) ++ 93 :: r = v.show ++ 44 :: (u.show ++ V.itemsMore l ++ 93 :: r) := by
      conv => lhs; unfold V.itemsMore
      simp
    rw [e, h1, h2]
    conv => rhs; unfold V.itemsMore
    simp; omega
theorem backO (f : Nat) (ihP : BackV f) (ihR : BackO f) : BackO (f + 1) := by
  intro k v l ks d n akc acc r hv hl hs hk
  rcases l with _ | ⟨u, l⟩
  · obtain rfl := List.length_eq_zero_iff.1 hk
    have e1 : V.pairsMore [] [] = [] := by unfold V.pairsMore; rfl
    rw [e1, List.append_nil]
    have h1 := (loop_pair f k v r n akc acc (fun r' hr' => ihP v d r' hv (by omega) hr')).1
    rw [h1]
    simp; omega
  · rcases ks with _ | ⟨k2, ks⟩
    · simp at hk
    unfold V.fitsAll at hl
    simp only [Bool.and_eq_true] at hl
    unfold V.sizes at hs
    have h1 := (loop_pair f k v (quoteJ k2 ++ 58 :: (u.show ++ V.pairsMore l ks ++ 125 :: r)) n akc acc (fun r' hr' => ihP v d r' hv (by omega) hr')).2
    have h2 := ihR k2 u l ks d (n + ((quoteJ k).length + 1 + v.show.length) + 1) (akc ++ [k]) (acc ++ [v]) r hl.1 hl.2 (by omega) (by simpa using hk)
    have e : quoteJ k ++ 58 :: (v.show ++ V.pairsMore (u :: l) (k2 :: ks) ++ 125 :: r) = quoteJ k ++ 58 :: (v.show ++ 44 :: (quoteJ k2 ++ 58 :: (u.show ++ V.pairsMore l ks ++ 125 :: r))) := by
      conv => lhs; unfold V.pairsMore
      simp
    rw [e, h1, h2]
    conv => rhs; unfold V.pairsMore
    simp; omega
theorem back_all : ∀ f, BackV f ∧ BackL f ∧ BackO f
  | 0 => ⟨fun v _ _ _ h _ => absurd h (by have := size_pos v; omega), fun v _ _ _ _ _ _ _ h => absurd h (by omega), fun _ v _ _ _ _ _ _ _ _ _ h _ => absurd h (by omega)⟩
  | f + 1 => ⟨backV f (back_all f).2.1 (back_all f).2.2, backL f (back_all f).1 (back_all f).2.1, backO f (back_all f).1 (back_all f).2.2⟩
/-- the reader reads a good value's text -/
theorem show_back (v : V) (d f : Nat) (r : List UInt8) (hf : v.fits d = true) (hs : v.size ≤ f) (hr : noDigit r = true) : valueT f (v.show ++ r) = (v, v.show.length) := (back_all f).1 v d r hf hs hr
end Go.Proofs.YthbbeojhipcjiaaDoor
