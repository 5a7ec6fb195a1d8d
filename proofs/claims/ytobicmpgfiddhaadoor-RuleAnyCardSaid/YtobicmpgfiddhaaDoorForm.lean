/- Quoting as functions of lists: nothing of the program. -/
import Derived.Lib.Bytealg
namespace Go.Proofs.YtobicmpgfiddhaaDoor

theorem drop_cons (l : List UInt8) (k : Nat) (h : k < l.length) : l.drop k = l[k] :: l.drop (k + 1) := List.drop_eq_getElem_cons h
/-- what stands as it is in a form -/
def plainB (c : UInt8) : Bool := decide (97 ≤ c.toNat ∧ c.toNat ≤ 122 ∨ 65 ≤ c.toNat ∧ c.toNat ≤ 90 ∨ 48 ≤ c.toNat ∧ c.toNat ≤ 57 ∨ c.toNat = 45 ∨ c.toNat = 46 ∨ c.toNat = 95 ∨ c.toNat = 126)
def alnumB (c : UInt8) : Bool := decide (97 ≤ c.toNat ∧ c.toNat ≤ 122 ∨ 65 ≤ c.toNat ∧ c.toNat ≤ 90 ∨ 48 ≤ c.toNat ∧ c.toNat ≤ 57)

/-- a hexadecimal digit's number; -1: none -/
def hexI (c : UInt8) : Int := if 48 ≤ c.toNat ∧ c.toNat ≤ 57 then c.toNat - 48 else if 65 ≤ c.toNat ∧ c.toNat ≤ 70 then c.toNat - 55 else if 97 ≤ c.toNat ∧ c.toNat ≤ 102 then c.toNat - 87 else -1
theorem hexI_spec (c : UInt8) : (48 ≤ (c.toNat : Int) ∧ (c.toNat : Int) ≤ 57 ∧ hexI c = c.toNat - 48) ∨ (65 ≤ (c.toNat : Int) ∧ (c.toNat : Int) ≤ 70 ∧ hexI c = c.toNat - 55) ∨ (97 ≤ (c.toNat : Int) ∧ (c.toNat : Int) ≤ 102 ∧ hexI c = c.toNat - 87) ∨
    (((c.toNat : Int) < 48 ∨ 57 < (c.toNat : Int) ∧ (c.toNat : Int) < 65 ∨ 70 < (c.toNat : Int) ∧ (c.toNat : Int) < 97 ∨ 102 < (c.toNat : Int)) ∧ hexI c = -1) := by
  unfold hexI
  split
  · omega
  · split
    · omega
    · split <;> omega

def hexU (n : Nat) : UInt8 := (#[48, 49, 50, 51, 52, 53, 54, 55, 56, 57, 65, 66, 67, 68, 69, 70] : Array UInt8).getD n 0
def hexBytes : ByteArray := ⟨#[48, 49, 50, 51, 52, 53, 54, 55, 56, 57, 65, 66, 67, 68, 69, 70]⟩
theorem hexU_at {n : Nat} (h : n < hexBytes.size) : hexBytes[n] = hexU n := by
  have h' : n < hexBytes.data.size := h
  show hexBytes.data[n] = hexBytes.data.getD n 0
  rw [Array.getD_eq_getD_getElem?, Array.getElem?_eq_getElem h']; rfl
def quote1 (c : UInt8) : List UInt8 := if plainB c then [c] else [37, hexU (c.toNat / 16), hexU (c.toNat % 16)]
def quoteL (l : List UInt8) : List UInt8 := l.flatMap quote1
theorem quoteL_snoc (l : List UInt8) (c : UInt8) : quoteL (l ++ [c]) = quoteL l ++ quote1 c := by simp [quoteL]
theorem quoteL_le (l : List UInt8) : (quoteL l).length ≤ 3 * l.length := by
  induction l with
  | nil => simp [quoteL]
  | cons c l ih =>
    have : quoteL (c :: l) = quote1 c ++ quoteL l := by simp [quoteL]
    rw [this, List.length_append]
    have : (quote1 c).length ≤ 3 := by unfold quote1; split <;> simp
    simp; omega

def digN (c : UInt8) : Int := if hexI c < 0 then 0 else hexI c
def digB (c : UInt8) : Bool := decide (0 ≤ hexI c)
theorem hexI_bd (c : UInt8) : -1 ≤ hexI c ∧ hexI c ≤ 15 := by have := hexI_spec c; omega
theorem digN_bd (c : UInt8) : 0 ≤ digN c ∧ digN c ≤ 15 := by have := hexI_bd c; unfold digN; split <;> omega
theorem digN_of {c : UInt8} (h : digB c = true) : digN c = hexI c ∧ 0 ≤ hexI c := by
  have : 0 ≤ hexI c := by simpa [digB] using h
  unfold digN; rw [if_neg (by omega)]; exact ⟨rfl, this⟩


def hexByte (a b : UInt8) : UInt8 := UInt8.ofNat (16 * digN a + digN b).toNat
theorem hexByte_toNat (a b : UInt8) : ((hexByte a b).toNat : Int) = 16 * digN a + digN b := by
  have := digN_bd a; have := digN_bd b
  unfold hexByte; rw [UInt8.toNat_ofNat']; omega

/-- what a text stands for in a form -/
def unq : List UInt8 → Option (List UInt8)
  | [] => some []
  | c :: r =>
    if c.toNat = 43 then (unq r).map (32 :: ·)
    else if c.toNat = 37 then
      match r with
      | a :: b :: r' => if digB a && digB b then (unq r').map (hexByte a b :: ·) else none
      | _ => none
    else (unq r).map (c :: ·)

theorem unq_plus {c : UInt8} (r : List UInt8) (h : c.toNat = 43) : unq (c :: r) = (unq r).map (32 :: ·) := by
  rcases r with _ | ⟨a, _ | ⟨b, r⟩⟩
  · simp [unq, h]
  · simp [unq, h]
  · rw [unq, if_pos h]
theorem unq_same {c : UInt8} (r : List UInt8) (h : c.toNat ≠ 43) (h' : c.toNat ≠ 37) : unq (c :: r) = (unq r).map (c :: ·) := by
  rcases r with _ | ⟨a, _ | ⟨b, r⟩⟩
  · simp [unq, h, h']
  · simp [unq, h, h']
  · rw [unq, if_neg h, if_neg h']
theorem unq_hex {c : UInt8} (a b : UInt8) (r : List UInt8) (h' : c.toNat = 37) : unq (c :: a :: b :: r) = if digB a && digB b then (unq r).map (hexByte a b :: ·) else none := by
  rw [unq, if_neg (by omega), if_pos h']
theorem unq_short {c : UInt8} (r : List UInt8) (h' : c.toNat = 37) (hr : r.length ≤ 1) : unq (c :: r) = none := by
  rcases r with _ | ⟨a, _ | ⟨b, r⟩⟩
  · rw [unq, if_neg (by omega), if_pos h']; simp
  · rw [unq, if_neg (by omega), if_pos h']; simp
  · simp at hr

def UnqAt (l : List UInt8) (k : Nat) (acc : List UInt8) : Prop := unq l = (unq (l.drop k)).map (acc ++ ·)
theorem unqAt_start (l : List UInt8) : UnqAt l 0 [] := by unfold UnqAt; simp
theorem unqAt_end {l acc : List UInt8} (h : UnqAt l l.length acc) : unq l = some acc := by unfold UnqAt at h; rw [h]; simp [unq]
theorem unqAt_plus {l acc : List UInt8} {k : Nat} (h : UnqAt l k acc) (hk : k < l.length) (hc : l[k].toNat = 43) : UnqAt l (k + 1) (acc ++ [32]) := by
  unfold UnqAt at h ⊢
  rw [h, drop_cons l k hk, unq_plus _ hc, Option.map_map]; congr 1; funext x; simp
theorem unqAt_same {l acc : List UInt8} {k : Nat} (h : UnqAt l k acc) (hk : k < l.length) (hc : l[k].toNat ≠ 43) (hc' : l[k].toNat ≠ 37) : UnqAt l (k + 1) (acc ++ [l[k]]) := by
  unfold UnqAt at h ⊢
  rw [h, drop_cons l k hk, unq_same _ hc hc', Option.map_map]; congr 1; funext x; simp
theorem unqAt_hex {l acc : List UInt8} {k : Nat} (h : UnqAt l k acc) (hk : k + 2 < l.length) (hc' : l[k].toNat = 37) (ha : digB l[k + 1] = true) (hb : digB l[k + 2] = true) :
    UnqAt l (k + 3) (acc ++ [hexByte l[k + 1] l[k + 2]]) := by
  unfold UnqAt at h ⊢
  rw [h, drop_cons l k (by omega), drop_cons l (k + 1) (by omega), drop_cons l (k + 2) (by omega), unq_hex _ _ _ hc']
  simp only [ha, hb, Bool.and_self, if_true]
  rw [Option.map_map]; congr 1; funext x; simp
theorem unqAt_short {l acc : List UInt8} {k : Nat} (h : UnqAt l k acc) (hk : k < l.length) (hs : l.length ≤ k + 2) (hc' : l[k].toNat = 37) : unq l = none := by
  unfold UnqAt at h
  rw [h, drop_cons l k hk, unq_short _ hc' (by simp; omega)]; rfl
theorem unqAt_bad {l acc : List UInt8} {k : Nat} (h : UnqAt l k acc) (hk : k + 2 < l.length) (hc' : l[k].toNat = 37) (ha : digB l[k + 1] = false ∨ digB l[k + 2] = false) : unq l = none := by
  unfold UnqAt at h
  rw [h, drop_cons l k (by omega), drop_cons l (k + 1) (by omega), drop_cons l (k + 2) (by omega), unq_hex _ _ _ hc']
  have : (digB l[k + 1] && digB l[k + 2]) = false := by rcases ha with h | h <;> simp [h]
  simp only [this, Bool.false_eq_true, if_false]; rfl

theorem hexU_all : ∀ n : Nat, n < 256 → digB (hexU (n / 16)) = true ∧ digB (hexU (n % 16)) = true ∧ hexByte (hexU (n / 16)) (hexU (n % 16)) = UInt8.ofNat n := by decide +kernel
theorem plain_not (c : UInt8) (h : plainB c = true) : c.toNat ≠ 43 ∧ c.toNat ≠ 37 := by simp [plainB] at h; omega
theorem unq_quote1 (c : UInt8) (r : List UInt8) : unq (quote1 c ++ r) = (unq r).map (c :: ·) := by
  unfold quote1
  split
  · rename_i h
    exact unq_same _ (plain_not c h).1 (plain_not c h).2
  · have := hexU_all c.toNat c.toNat_lt
    show unq (37 :: hexU (c.toNat / 16) :: hexU (c.toNat % 16) :: r) = _
    rw [unq_hex _ _ _ (by decide), this.1, this.2.1, this.2.2, UInt8.ofNat_toNat]; rfl
theorem unq_quoteL (l : List UInt8) : unq (quoteL l) = some l := by
  induction l with
  | nil => rfl
  | cons c l ih =>
    have : quoteL (c :: l) = quote1 c ++ quoteL l := by simp [quoteL]
    rw [this, unq_quote1, ih]; rfl

end Go.Proofs.YtobicmpgfiddhaaDoor
