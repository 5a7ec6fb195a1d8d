/- HMAC as a function of lists; arrays that are written in place, as the heap has them. -/
import Derived.Test.YtdjohogkjplpmaaDoorHashEnding
import Derived.Lib.LazyBuf
namespace Go.Proofs.YtdjohogkjplpmaaDoor
open Go.RowKit

def keyL (k : List UInt8) : List UInt8 := if 64 < k.length then sumL k else k
def padK (k : List UInt8) : List UInt8 := keyL k ++ List.replicate (64 - (keyL k).length) 0
def xorL (c : UInt8) (l : List UInt8) : List UInt8 := l.map fun x => x ^^^ c
def macL (k b : List UInt8) : List UInt8 := sumL (xorL 92 (padK k) ++ sumL (xorL 54 (padK k) ++ b))
theorem sumL_len (l : List UInt8) : (sumL l).length = 32 := rfl
theorem keyL_len (k : List UInt8) : (keyL k).length ≤ 64 := by
  unfold keyL; split
  · rw [sumL_len]; omega
  · omega
theorem padK_len (k : List UInt8) : (padK k).length = 64 := by
  have := keyL_len k
  unfold padK; rw [List.length_append, List.length_replicate]; omega
theorem macL_len (k b : List UInt8) : (macL k b).length = 32 := rfl
theorem xor8 (x c : UInt8) : bits .xor .u8 (x.toNat : Int) (c.toNat : Int) = ((x ^^^ c).toNat : Int) := by
  rw [bits_xor_nat .u8 8 (by decide) (fun n h0 h1 => by rw [IntKind.wrap_u8]; omega) _ _ x.toNat_lt c.toNat_lt, UInt8.toNat_xor]
/-- the first i bytes turned -/
def xorI (c : UInt8) (l : List UInt8) (i : Nat) : List UInt8 := xorL c (l.take i) ++ l.drop i
theorem xorI_len (c : UInt8) (l : List UInt8) (i : Nat) : (xorI c l i).length = l.length := by simp [xorI, xorL]; omega
theorem xorI_zero (c : UInt8) (l : List UInt8) : xorI c l 0 = l := by simp [xorI, xorL]
theorem xorI_all (c : UInt8) (l : List UInt8) (n : Nat) (h : l.length = n) : xorI c l n = xorL c l := by subst h; simp [xorI, xorL]
theorem xorI_at (c : UInt8) (l : List UInt8) (i : Nat) (h : i < l.length) (h' : i < (xorI c l i).length) : (xorI c l i)[i] = l[i] := by
  have e : (xorI c l i)[i]? = some l[i] := by
    unfold xorI xorL
    rw [List.getElem?_append_right (by simp; omega)]
    simp [Nat.min_eq_left (Nat.le_of_lt h), h]
  rw [List.getElem?_eq_getElem h'] at e
  injection e
theorem xorI_next (c : UInt8) (l : List UInt8) (i : Nat) (h : i < l.length) : (xorI c l i).set i (l[i] ^^^ c) = xorI c l (i + 1) := by
  unfold xorI xorL
  rw [List.set_append_right _ _ (by simp; omega), List.take_succ_eq_append_getElem h, List.map_append, List.append_assoc]
  congr 1
  have e : i - (List.map (fun x => x ^^^ c) (List.take i l)).length = 0 := by simp; omega
  rw [e, List.drop_eq_getElem_cons h]; rfl

def setAll (C : Array Value) : Nat → List Value → Array Value
  | _, [] => C
  | o, v :: r => setAll (C.setIfInBounds o v) (o + 1) r
theorem setCells_heap {b : Nat} {t : TypeId} : ∀ (vs : List Value) (o : Nat) (w : World) (C : Array Value), w.heap[b]? = some (.cells C t) → (w.setCells b o vs).heap[b]? = some (.cells (setAll C o vs) t)
  | [], _, _, _, h => h
  | v :: r, o, w, C, h => setCells_heap r (o + 1) (w.setCell ⟨b, o, none⟩ v) (C.setIfInBounds o v) (heap_set_cell h v)
theorem setCells_far {b k : Nat} (hk : k ≠ b) : ∀ (vs : List Value) (o : Nat) (w : World), (w.setCells b o vs).heap[k]? = w.heap[k]?
  | [], _, _ => rfl
  | v :: r, o, w => (setCells_far hk r (o + 1) (w.setCell ⟨b, o, none⟩ v)).trans (Below.heap_setCell w _ v k (fun e => hk (by rw [e])))
theorem setAll_bytes (n : Nat) : ∀ (l a : List UInt8), a.length + l.length ≤ n → setAll (bC n a) a.length (cells l) = bC n (a ++ l)
  | [], a, _ => by simp [cells, setAll]
  | c :: l, a, h => by
    have h' : a.length + (l.length + 1) ≤ n := by simpa using h
    show setAll ((bC n a).setIfInBounds a.length (.int .u8 (c.toNat : Int))) (a.length + 1) (cells l) = _
    rw [bC_next n a c (by omega)]
    have e : a.length + 1 = (a ++ [c]).length := by simp
    rw [e, setAll_bytes n l (a ++ [c]) (by simp; omega), List.append_assoc]; rfl
/-- a text copied into an array of noughts that lies somewhere -/
theorem copy_heap (W : World) (b N : Nat) (s : ByteArray) (hs : s.size ≤ N) (t ty : TypeId) (h : W.heap[b]? = some (.cells (bC N []) t)) :
    (Builtin.copy_ #[27, 9] ty #[.slice (some ⟨b, 0, none⟩) N N, .string s]).run Tryd.prog W = .ok (goInt s.size) (W.setCells b 0 (cells s.data.toList)) ∧
    (W.setCells b 0 (cells s.data.toList)).heap[b]? = some (.cells (bC N s.data.toList) t) := by
  have hsz : ∀ w, (sizeOf 5).run Tryd.prog w = .ok 1 w := fun w => by
    cases hq : Tryd.prog.info? 5 with
    | none => have := info_u8; simp [hq] at this
    | some j =>
      have : j.size = 1 := by have := info_u8; simpa [hq] using this
      simp [sizeOf, typeInfo, hq, this]
  have hcell : ∀ j, j < s.size → (W.cell? ⟨b, 0 + j, none⟩).isSome = true := fun j hj => by
    rw [cell_of_heap h, Array.getElem?_eq_getElem (by rw [bC_size N [] (by simp)]; omega)]; rfl
  refine ⟨Go.run_copy_string (P := Tryd.prog) W 27 9 ty 5 b 0 N N s Tryd.underlying27 hsz hs hcell (fun j _ => frozen_of_heap h), ?_⟩
  have h1 := setCells_heap (cells s.data.toList) 0 W _ h
  have h2 := setAll_bytes N s.data.toList [] (by show 0 + s.size ≤ N; omega)
  rw [List.length_nil] at h2
  rw [h2] at h1; exact h1
theorem conv_heap (W : World) (b N n : Nat) (l : List UInt8) (t : TypeId) (h : W.heap[b]? = some (.cells (bC N l) t)) (hn : n = l.length) :
    (convert 27 9 (.slice (some ⟨b, 0, none⟩) n N)).run Tryd.prog W = .ok (.string ⟨l.toArray⟩) W := by
  subst hn
  refine run_convert_bytes_back (P := Tryd.prog) _ 27 9 5 ⟨b, 0, none⟩ N l Tryd.underlying27 Tryd.underlying5 Tryd.underlying9 (fun j hj => ?_)
  rw [Addr.add_mid, Nat.zero_add, cell_of_heap h]
  exact bC_at N l j hj
theorem forall_and_l {α : Type} [Inhabited α] {p : α → Prop} {q : Prop} (h : ∀ a, p a ∧ q) : (∀ a, p a) ∧ q := ⟨fun a => (h a).1, (h default).2⟩
theorem Tryd.zero64b : (Tryd.prog.info? 37).map (fun i => (i.zero, i.size)) = some (some (.agg (Array.replicate 64 (.int .u8 0))), 64) := by kernel_rfl
theorem below_drew2 (w w2 : World) (h : Below w.drew.heap.size w.drew w2) : Below w.heap.size w w2 := by
  have e : w.drew.heap.size = w.heap.size := rfl
  rw [e] at h; exact ((Below.refl w.heap.size w).drew).trans h
theorem bC_one (n : Nat) (l : List UInt8) : (bC n l).all (·.oneCell') = true := by
  rw [Array.all_eq_true_iff_forall_mem]
  intro v hv
  simp only [bC, Array.mem_append, List.mem_toArray, Array.mem_replicate] at hv
  rcases hv with h | ⟨_, rfl⟩
  · exact cells_one l v h
  · rfl
theorem bC_pad (k : List UInt8) : bC 64 (keyL k) = bC 64 (padK k) := (bC_zeros 64 (keyL k) _ (by have := keyL_len k; omega)).symm
end Go.Proofs.YtdjohogkjplpmaaDoor
