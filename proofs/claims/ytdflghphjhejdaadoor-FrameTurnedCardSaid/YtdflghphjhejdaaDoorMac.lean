/- HMAC as a function of lists; arrays that are written in place, as the heap has them. -/
import Derived.Test.YtdflghphjhejdaaDoorHashEnding
import Derived.Lib.LazyBuf
namespace Go.Proofs.YtdflghphjhejdaaDoor
open Go.RowKit

def keyL (k : List UInt8) : List UInt8 := if 64 < k.length then sumL k else k
def padK (k : List UInt8) : List UInt8 := keyL k ++ List.replicate (64 - (keyL k).length) 0
def xorL (c : UInt8) (l : List UInt8) : List UInt8 := l.map fun x => x ^^^ c
def macL (k b : List UInt8) : List UInt8 := sumL (xorL 92 (padK k) ++ sumL (xorL 54 (padK k) ++ b))
theorem sumL_len (l : List UInt8) : (sumL l).length = 32 := rfl
theorem keyL_len (k : List UInt8) : (keyL k).length ≤ 64 := by
  unfold keyL; split
  · rw [sumL_len]; omega
  · omega
theorem padK_len (k : List UInt8) : (padK k).length = 64 := by
  have := keyL_len k
  unfold padK; rw [List.length_append, List.length_replicate]; omega
theorem macL_len (k b : List UInt8) : (macL k b).length = 32 := rfl
theorem xor8 (x c : UInt8) : bits .xor .u8 (x.toNat : Int) (c.toNat : Int) = ((x ^^^ c).toNat : Int) := by
  rw [bits_xor_nat .u8 8 (by decide) (fun n h0 h1 => by rw [IntKind.wrap_u8]; omega) _ _ x.toNat_lt c.toNat_lt, UInt8.toNat_xor]
/-- the first i bytes turned -/
def xorI (c : UInt8) (l : List UInt8) (i : Nat) : List UInt8 := xorL c (l.take i) ++ l.drop i
theorem xorI_len (c : UInt8) (l : List UInt8) (i : Nat) : (xorI c l i).length = l.length := by simp [xorI, xorL]; omega
theorem xorI_zero (c : UInt8) (l : List UInt8) : xorI c l 0 = l := by simp [xorI, xorL]
theorem xorI_all (c : UInt8) (l : List UInt8) (n : Nat) (h : l.length = n) : xorI c l n = xorL c l := by subst h; simp [xorI, xorL]
theorem xorI_at (c : UInt8) (l : List UInt8) (i : Nat) (h : i < l.length) (h' : i < (xorI c l i).length) : (xorI c l i)[i] = l[i] := by
  have e : (xorI c l i)[i]? = some l[i] := by
    unfold xorI xorL
    rw [List.getElem?_append_right (by simp; omega)]
    simp [Nat.min_eq_left (Nat.le_of_lt h), h]
  rw [List.getElem?_eq_getElem h'] at e
  injection e
theorem xorI_next (c : UInt8) (l : List UInt8) (i : Nat) (h : i < l.length) : (xorI c l i).set i (l[i] ^^^ c) = xorI c l (i + 1) := by
  unfold xorI xorL
  rw [List.set_append_right _ _ (by simp; omega), List.take_succ_eq_append_getElem h, List.map_append, List.append_assoc]
  congr 1
  have e : i - (List.map (fun x => x ^^^ c) (List.take i l)).length = 0 := by simp; omega
  rw [e, List.drop_eq_getElem_cons h]; rfl

def setAll (C : Array Value) : Nat → List Value → Array Value
  | _, [] => C
  | o, v :: r => setAll (C.setIfInBounds o v) (o + 1) r
theorem setCells_heap {b : Nat} {t : TypeId} : ∀ (vs : List Value) (o : Nat) (w : World) (C : Array Value), w.heap[b]? = some (.cells C t) → (w.setCells b o vs).heap[b]? = some (.cells (setAll C o vs) t)
  | [], _, _, _, h => h
  | v :: r, o, w, C, h => setCells_heap r (o + 1) (w.setCell ⟨b, o, none⟩ v) (C.setIfInBounds o v) (heap_set_cell h v)
theorem setCells_far {b k : Nat} (hk : k ≠ b) : ∀ (vs : List Value) (o : Nat) (w : World), (w.setCells b o vs).heap[k]? = w.heap[k]?
  | [], _, _ => rfl
  | v :: r, o, w => (setCells_far hk r (o + 1) (w.setCell ⟨b, o, none⟩ v)).trans (Below.heap_setCell w _ v k (fun e => hk (by rw [e])))
end Go.Proofs.YtdflghphjhejdaaDoor
