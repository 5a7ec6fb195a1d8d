/- base64url as functions of lists: nothing of the program. -/
import Derived.Lib.Bytealg
namespace Go.Proofs.YtefnkkjmcfpiaaaDoor

def ltrs : Array UInt8 := #[65, 66, 67, 68, 69, 70, 71, 72, 73, 74, 75, 76, 77, 78, 79, 80, 81, 82, 83, 84, 85, 86, 87, 88, 89, 90, 97, 98, 99, 100, 101, 102, 103, 104, 105, 106, 107, 108, 109, 110, 111, 112, 113, 114, 115, 116, 117, 118, 119, 120, 121, 122, 48, 49, 50, 51, 52, 53, 54, 55, 56, 57, 45, 95]
def ltr (n : Nat) : UInt8 := ltrs.getD n 0
theorem ltr_at {n : Nat} (h : n < (ByteArray.mk ltrs).size) : (ByteArray.mk ltrs)[n] = ltr n := by
  have h' : n < ltrs.size := h
  simp [ltr, h']; rfl

/-- the letter's number; -1: none -/
def ix (c : UInt8) : Int := Lib.indexByte ltrs.toList c

theorem ix_all : ∀ n : Nat, n < 256 → (ix (UInt8.ofNat n) = -1 ∨ (0 ≤ ix (UInt8.ofNat n) ∧ ix (UInt8.ofNat n) < 64 ∧ ltr (ix (UInt8.ofNat n)).toNat = UInt8.ofNat n)) := by decide +kernel
theorem ix_cases (c : UInt8) : ix c = -1 ∨ (0 ≤ ix c ∧ ix c < 64 ∧ ltr (ix c).toNat = c) := by
  have := ix_all c.toNat c.toNat_lt
  rwa [UInt8.ofNat_toNat] at this
theorem ix_ltr : ∀ n : Nat, n < 64 → ix (ltr n) = n := by decide +kernel
theorem ltr_inj {a b : Nat} (ha : a < 64) (hb : b < 64) (h : ltr a = ltr b) : a = b := by
  have h1 := ix_ltr a ha
  have h2 := ix_ltr b hb
  rw [h, h2] at h1; omega

/-- the last of the first k letters that is c -/
def ixTo (c : UInt8) : Nat → Int
  | 0 => -1
  | k + 1 => if (ltr k).toNat = c.toNat then k else ixTo c k
theorem ixTo_all : ∀ n : Nat, n < 256 → ixTo (UInt8.ofNat n) 64 = ix (UInt8.ofNat n) := by decide +kernel
theorem ixTo_ix (c : UInt8) : ixTo c 64 = ix c := by
  have := ixTo_all c.toNat c.toNat_lt
  rwa [UInt8.ofNat_toNat] at this

def chunk (v : Nat) : List UInt8 := [ltr (v / 262144), ltr (v / 4096 % 64), ltr (v / 64 % 64), ltr (v % 64)]
/-- base64url -/
def enc : List UInt8 → List UInt8
  | [] => []
  | [a] => (chunk (a.toNat * 65536)).take 2
  | [a, b] => (chunk (a.toNat * 65536 + b.toNat * 256)).take 3
  | a :: b :: c :: r => chunk (a.toNat * 65536 + b.toNat * 256 + c.toNat) ++ enc r

theorem enc_len : ∀ l : List UInt8, (enc l).length = (4 * l.length + 2) / 3
  | [] => rfl
  | [a] => by simp [enc, chunk]
  | [a, b] => by simp [enc, chunk]
  | a :: b :: c :: r => by
    have := enc_len r
    simp [enc, chunk]; omega

/-! ## the program's way: bit by bit, in a word of 32 bits -/
def push8 (H : Nat) (b : UInt8) : Nat := H * 256 % 4294967296 + b.toNat
def encS : Nat → Nat → List UInt8 → List UInt8
  | H, bits, [] => if bits = 0 then [] else if bits = 2 then [ltr (H * 16 % 4294967296 % 64)] else [ltr (H * 4 % 4294967296 % 64)]
  | H, bits, b :: r => if bits = 0 then ltr (push8 H b / 4 % 64) :: encS (push8 H b) 2 r else if bits = 2 then ltr (push8 H b / 16 % 64) :: encS (push8 H b) 4 r
    else ltr (push8 H b / 64 % 64) :: ltr (push8 H b % 64) :: encS (push8 H b) 0 r

theorem cons_ltr {a b : Nat} {r r' : List UInt8} (h : a = b) (h' : r = r') : ltr a :: r = ltr b :: r' := by rw [h, h']

theorem encS_0 (H : Nat) (b : UInt8) (r : List UInt8) : encS H 0 (b :: r) = ltr (push8 H b / 4 % 64) :: encS (push8 H b) 2 r := rfl
theorem encS_2 (H : Nat) (b : UInt8) (r : List UInt8) : encS H 2 (b :: r) = ltr (push8 H b / 16 % 64) :: encS (push8 H b) 4 r := rfl
theorem encS_4 (H : Nat) (b : UInt8) (r : List UInt8) : encS H 4 (b :: r) = ltr (push8 H b / 64 % 64) :: ltr (push8 H b % 64) :: encS (push8 H b) 0 r := rfl
theorem encS_end2 (H : Nat) : encS H 2 [] = [ltr (H * 16 % 4294967296 % 64)] := rfl
theorem encS_end4 (H : Nat) : encS H 4 [] = [ltr (H * 4 % 4294967296 % 64)] := rfl

theorem encS_enc : ∀ (l : List UInt8) (H : Nat), encS H 0 l = enc l
  | [], H => rfl
  | [a], H => by
    have ha := a.toNat_lt
    rw [encS_0, encS_end2]
    show _ = [ltr (a.toNat * 65536 / 262144), ltr (a.toNat * 65536 / 4096 % 64)]
    unfold push8
    exact cons_ltr (by omega) (cons_ltr (by omega) rfl)
  | [a, b], H => by
    have ha := a.toNat_lt
    have hb := b.toNat_lt
    rw [encS_0, encS_2, encS_end4]
    show _ = [ltr ((a.toNat * 65536 + b.toNat * 256) / 262144), ltr ((a.toNat * 65536 + b.toNat * 256) / 4096 % 64), ltr ((a.toNat * 65536 + b.toNat * 256) / 64 % 64)]
    unfold push8
    exact cons_ltr (by omega) (cons_ltr (by omega) (cons_ltr (by omega) rfl))
  | a :: b :: c :: r, H => by
    have ha := a.toNat_lt
    have hb := b.toNat_lt
    have hc := c.toNat_lt
    rw [encS_0, encS_2, encS_4, encS_enc r]
    show _ = ltr ((a.toNat * 65536 + b.toNat * 256 + c.toNat) / 262144) :: ltr ((a.toNat * 65536 + b.toNat * 256 + c.toNat) / 4096 % 64) :: ltr ((a.toNat * 65536 + b.toNat * 256 + c.toNat) / 64 % 64) :: ltr ((a.toNat * 65536 + b.toNat * 256 + c.toNat) % 64) :: enc r
    unfold push8
    exact cons_ltr (by omega) (cons_ltr (by omega) (cons_ltr (by omega) (cons_ltr (by omega) rfl)))

/-! ## reading -/
def push6 (H : Nat) (d : Nat) : Nat := H * 64 % 4294967296 + d
/-- the program's way -/
def decS : Nat → Nat → List UInt8 → Option (List UInt8)
  | H, bits, [] => if bits < 6 ∧ H % 2 ^ bits = 0 then some [] else none
  | H, bits, c :: r => if ix c < 0 then none else
    if bits < 2 then decS (push6 H (ix c).toNat) (bits + 6) r
    else (decS (push6 H (ix c).toNat) (bits - 2) r).map (UInt8.ofNat (push6 H (ix c).toNat / 2 ^ (bits - 2)) :: ·)
/-- the reference's way -/
def unS : Nat → Nat → List UInt8 → Option (List UInt8)
  | _, _, [] => some []
  | v, n, c :: r => if ix c < 0 then none else
    if n < 2 then unS (v * 64 + (ix c).toNat) (n + 6) r
    else (unS ((v * 64 + (ix c).toNat) % 2 ^ (n - 2)) (n - 2) r).map (UInt8.ofNat ((v * 64 + (ix c).toNat) / 2 ^ (n - 2)) :: ·)
/-- what a text is of -/
def dec (l : List UInt8) : Option (List UInt8) := (unS 0 0 l).bind fun o => if enc o = l then some o else none

/-- a text of letters is its numbers' -/
def ds (l : List Nat) : List UInt8 := l.map ltr
theorem letters (l : List UInt8) : (∃ l' : List Nat, l = ds l' ∧ ∀ d ∈ l', d < 64) ∨ ∃ p c r, l = ds p ++ c :: r ∧ (∀ d ∈ p, d < 64) ∧ ix c = -1 := by
  induction l with
  | nil => exact .inl ⟨[], rfl, by simp⟩
  | cons c l ih =>
    rcases ix_cases c with h | ⟨h0, h1, h2⟩
    · exact .inr ⟨[], c, l, rfl, by simp, h⟩
    · rcases ih with ⟨l', e, hl⟩ | ⟨p, c', r, e, hp, hc⟩
      · exact .inl ⟨(ix c).toNat :: l', by rw [e]; simp [ds, h2], by intro d hd; rcases List.mem_cons.1 hd with rfl | hd; omega; exact hl d hd⟩
      · exact .inr ⟨(ix c).toNat :: p, c', r, by rw [e]; simp [ds, h2], by intro d hd; rcases List.mem_cons.1 hd with rfl | hd; omega; exact hp d hd, hc⟩

theorem unS_none (p : List Nat) (c : UInt8) (r : List UInt8) (hp : ∀ d ∈ p, d < 64) (hc : ix c = -1) : ∀ v n, unS v n (ds p ++ c :: r) = none := by
  induction p with
  | nil => intro v n; show unS v n (c :: r) = none; rw [unS, if_pos (by omega)]
  | cons d p ih =>
    intro v n
    have ih' := ih fun d hd => hp d (List.mem_cons_of_mem _ hd)
    show unS v n (ltr d :: (ds p ++ c :: r)) = none
    rw [unS, ih', ih']; simp
theorem decS_none (p : List Nat) (c : UInt8) (r : List UInt8) (hp : ∀ d ∈ p, d < 64) (hc : ix c = -1) : ∀ v n, decS v n (ds p ++ c :: r) = none := by
  induction p with
  | nil => intro v n; show decS v n (c :: r) = none; rw [decS, if_pos (by omega)]
  | cons d p ih =>
    intro v n
    have ih' := ih fun d hd => hp d (List.mem_cons_of_mem _ hd)
    show decS v n (ltr d :: (ds p ++ c :: r)) = none
    rw [decS, ih', ih']; simp

theorem decS_ltr (H bits d : Nat) (hd : d < 64) (r : List UInt8) : decS H bits (ltr d :: r) = if bits < 2 then decS (push6 H d) (bits + 6) r else (decS (push6 H d) (bits - 2) r).map (UInt8.ofNat (push6 H d / 2 ^ (bits - 2)) :: ·) := by
  rw [decS, ix_ltr d hd, if_neg (by omega)]; rfl
theorem unS_ltr (v n d : Nat) (hd : d < 64) (r : List UInt8) : unS v n (ltr d :: r) = if n < 2 then unS (v * 64 + d) (n + 6) r else (unS ((v * 64 + d) % 2 ^ (n - 2)) (n - 2) r).map (UInt8.ofNat ((v * 64 + d) / 2 ^ (n - 2)) :: ·) := by
  rw [unS, ix_ltr d hd, if_neg (by omega)]; rfl
theorem byte_eq {a b : Nat} (h : a % 256 = b % 256) : UInt8.ofNat a = UInt8.ofNat b := by
  apply UInt8.toNat_inj.1; rw [UInt8.toNat_ofNat', UInt8.toNat_ofNat']; exact h

theorem toNat_byte (a : Nat) : (UInt8.ofNat a).toNat = a % 256 := UInt8.toNat_ofNat'

theorem dec_ds : ∀ (l : List Nat), (∀ d ∈ l, d < 64) → ∀ H, decS H 0 (ds l) = dec (ds l)
  | [], _, H => by simp [ds, decS, dec, unS, enc]; omega
  | [a], h, H => by
    have ha := h a (by simp)
    show decS H 0 [ltr a] = dec [ltr a]
    rw [decS_ltr _ _ _ ha, dec, unS_ltr _ _ _ ha]
    simp [decS, unS, enc]
  | [a, b], h, H => by
    have ha := h a (by simp)
    have hb := h b (by simp)
    show decS H 0 [ltr a, ltr b] = dec [ltr a, ltr b]
    have e1 : decS H 0 [ltr a, ltr b] = if b % 16 = 0 then some [UInt8.ofNat ((a * 64 + b) / 16)] else none := by
      rw [decS_ltr _ _ _ ha, if_pos (by decide), decS_ltr _ _ _ hb, if_neg (by decide), decS]
      have : push6 (push6 H a) b % 2 ^ (0 + 6 - 2) = b % 16 := by unfold push6; omega
      rw [this]
      have hy : UInt8.ofNat (push6 (push6 H a) b / 2 ^ (0 + 6 - 2)) = UInt8.ofNat ((a * 64 + b) / 16) := byte_eq (by unfold push6; omega)
      rw [hy]
      by_cases hz : b % 16 = 0 <;> simp [hz]
    have e2 : unS 0 0 [ltr a, ltr b] = some [UInt8.ofNat ((a * 64 + b) / 16)] := by
      rw [unS_ltr _ _ _ ha, if_pos (by decide), unS_ltr _ _ _ hb, if_neg (by decide), unS]; simp
    rw [e1, dec, e2, Option.bind_some]
    have e3 : enc [UInt8.ofNat ((a * 64 + b) / 16)] = [ltr a, ltr (b / 16 * 16)] := by
      show [ltr ((UInt8.ofNat ((a * 64 + b) / 16)).toNat * 65536 / 262144), ltr ((UInt8.ofNat ((a * 64 + b) / 16)).toNat * 65536 / 4096 % 64)] = _
      rw [toNat_byte]
      exact cons_ltr (by omega) (cons_ltr (by omega) rfl)
    rw [e3]
    by_cases hz : b % 16 = 0
    · rw [if_pos hz, if_pos (cons_ltr rfl (cons_ltr (by omega) rfl))]
    · rw [if_neg hz, if_neg]
      intro he; injection he with _ he; injection he with he _
      have := ltr_inj (by omega) hb he; omega
  | [a, b, c], h, H => by
    have ha := h a (by simp)
    have hb := h b (by simp)
    have hc := h c (by simp)
    show decS H 0 [ltr a, ltr b, ltr c] = dec [ltr a, ltr b, ltr c]
    have e1 : decS H 0 [ltr a, ltr b, ltr c] = if c % 4 = 0 then some [UInt8.ofNat ((a * 64 + b) / 16), UInt8.ofNat ((b * 64 + c) / 4)] else none := by
      rw [decS_ltr _ _ _ ha, if_pos (by decide), decS_ltr _ _ _ hb, if_neg (by decide), decS_ltr _ _ _ hc, if_neg (by decide), decS]
      have : push6 (push6 (push6 H a) b) c % 2 ^ (0 + 6 - 2 - 2) = c % 4 := by unfold push6; omega
      rw [this]
      have hy : UInt8.ofNat (push6 (push6 H a) b / 2 ^ (0 + 6 - 2)) = UInt8.ofNat ((a * 64 + b) / 16) := byte_eq (by unfold push6; omega)
      have hy' : UInt8.ofNat (push6 (push6 (push6 H a) b) c / 2 ^ (0 + 6 - 2 - 2)) = UInt8.ofNat ((b * 64 + c) / 4) := byte_eq (by unfold push6; omega)
      rw [hy, hy']
      by_cases hz : c % 4 = 0 <;> simp [hz]
    have e2 : unS 0 0 [ltr a, ltr b, ltr c] = some [UInt8.ofNat ((a * 64 + b) / 16), UInt8.ofNat ((b * 64 + c) / 4)] := by
      rw [unS_ltr _ _ _ ha, if_pos (by decide), unS_ltr _ _ _ hb, if_neg (by decide), unS_ltr _ _ _ hc, if_neg (by decide), unS]
      have hy : UInt8.ofNat (((0 * 64 + a) * 64 + b) / 2 ^ (0 + 6 - 2)) = UInt8.ofNat ((a * 64 + b) / 16) := byte_eq (by omega)
      have hy' : UInt8.ofNat ((((0 * 64 + a) * 64 + b) % 2 ^ (0 + 6 - 2) * 64 + c) / 2 ^ (0 + 6 - 2 - 2)) = UInt8.ofNat ((b * 64 + c) / 4) := byte_eq (by omega)
      rw [hy, hy']; rfl
    rw [e1, dec, e2, Option.bind_some]
    have e3 : enc [UInt8.ofNat ((a * 64 + b) / 16), UInt8.ofNat ((b * 64 + c) / 4)] = [ltr a, ltr b, ltr (c / 4 * 4)] := by
      show [ltr (((UInt8.ofNat ((a * 64 + b) / 16)).toNat * 65536 + (UInt8.ofNat ((b * 64 + c) / 4)).toNat * 256) / 262144), ltr (((UInt8.ofNat ((a * 64 + b) / 16)).toNat * 65536 + (UInt8.ofNat ((b * 64 + c) / 4)).toNat * 256) / 4096 % 64), ltr (((UInt8.ofNat ((a * 64 + b) / 16)).toNat * 65536 + (UInt8.ofNat ((b * 64 + c) / 4)).toNat * 256) / 64 % 64)] = _
      rw [toNat_byte, toNat_byte]
      exact cons_ltr (by omega) (cons_ltr (by omega) (cons_ltr (by omega) rfl))
    rw [e3]
    by_cases hz : c % 4 = 0
    · rw [if_pos hz, if_pos (cons_ltr rfl (cons_ltr rfl (cons_ltr (by omega) rfl)))]
    · rw [if_neg hz, if_neg]
      intro he; injection he with _ he; injection he with _ he; injection he with he _
      have := ltr_inj (by omega) hc he; omega
  | a :: b :: c :: d :: r, h, H => by
    have ha := h a (by simp)
    have hb := h b (by simp)
    have hc := h c (by simp)
    have hd := h d (by simp)
    have ih := dec_ds r (fun x hx => h x (by simp [hx]))
    show decS H 0 (ltr a :: ltr b :: ltr c :: ltr d :: ds r) = dec (ltr a :: ltr b :: ltr c :: ltr d :: ds r)
    have e1 : decS H 0 (ltr a :: ltr b :: ltr c :: ltr d :: ds r) = (dec (ds r)).map ([UInt8.ofNat ((a * 64 + b) / 16), UInt8.ofNat ((b * 64 + c) / 4), UInt8.ofNat (c * 64 + d)] ++ ·) := by
      rw [decS_ltr _ _ _ ha, if_pos (by decide), decS_ltr _ _ _ hb, if_neg (by decide), decS_ltr _ _ _ hc, if_neg (by decide), decS_ltr _ _ _ hd, if_neg (by decide)]
      have hy : UInt8.ofNat (push6 (push6 H a) b / 2 ^ (0 + 6 - 2)) = UInt8.ofNat ((a * 64 + b) / 16) := byte_eq (by unfold push6; omega)
      have hy' : UInt8.ofNat (push6 (push6 (push6 H a) b) c / 2 ^ (0 + 6 - 2 - 2)) = UInt8.ofNat ((b * 64 + c) / 4) := byte_eq (by unfold push6; omega)
      have hy'' : UInt8.ofNat (push6 (push6 (push6 (push6 H a) b) c) d / 2 ^ (0 + 6 - 2 - 2 - 2)) = UInt8.ofNat (c * 64 + d) := byte_eq (by unfold push6; omega)
      rw [hy, hy', hy'', show (0 + 6 - 2 - 2 - 2 : Nat) = 0 from rfl, ih, Option.map_map, Option.map_map]; rfl
    have e2 : unS 0 0 (ltr a :: ltr b :: ltr c :: ltr d :: ds r) = (unS 0 0 (ds r)).map ([UInt8.ofNat ((a * 64 + b) / 16), UInt8.ofNat ((b * 64 + c) / 4), UInt8.ofNat (c * 64 + d)] ++ ·) := by
      rw [unS_ltr _ _ _ ha, if_pos (by decide), unS_ltr _ _ _ hb, if_neg (by decide), unS_ltr _ _ _ hc, if_neg (by decide), unS_ltr _ _ _ hd, if_neg (by decide)]
      have hy : UInt8.ofNat (((0 * 64 + a) * 64 + b) / 2 ^ (0 + 6 - 2)) = UInt8.ofNat ((a * 64 + b) / 16) := byte_eq (by omega)
      have hy' : UInt8.ofNat ((((0 * 64 + a) * 64 + b) % 2 ^ (0 + 6 - 2) * 64 + c) / 2 ^ (0 + 6 - 2 - 2)) = UInt8.ofNat ((b * 64 + c) / 4) := byte_eq (by omega)
      have hy'' : UInt8.ofNat (((((0 * 64 + a) * 64 + b) % 2 ^ (0 + 6 - 2) * 64 + c) % 2 ^ (0 + 6 - 2 - 2) * 64 + d) / 2 ^ (0 + 6 - 2 - 2 - 2)) = UInt8.ofNat (c * 64 + d) := byte_eq (by omega)
      have hv : ((((0 * 64 + a) * 64 + b) % 2 ^ (0 + 6 - 2) * 64 + c) % 2 ^ (0 + 6 - 2 - 2) * 64 + d) % 2 ^ (0 + 6 - 2 - 2 - 2) = 0 := by omega
      rw [hy, hy', hy'', hv, show (0 + 6 - 2 - 2 - 2 : Nat) = 0 from rfl, Option.map_map, Option.map_map]; rfl
    rw [e1]
    unfold dec
    rw [e2]
    cases unS 0 0 (ds r) with
    | none => rfl
    | some o =>
      have e3 : enc ([UInt8.ofNat ((a * 64 + b) / 16), UInt8.ofNat ((b * 64 + c) / 4), UInt8.ofNat (c * 64 + d)] ++ o) = ltr a :: ltr b :: ltr c :: ltr d :: enc o := by
        show chunk ((UInt8.ofNat ((a * 64 + b) / 16)).toNat * 65536 + (UInt8.ofNat ((b * 64 + c) / 4)).toNat * 256 + (UInt8.ofNat (c * 64 + d)).toNat) ++ enc o = _
        rw [toNat_byte, toNat_byte, toNat_byte]
        exact cons_ltr (by omega) (cons_ltr (by omega) (cons_ltr (by omega) (cons_ltr (by omega) rfl)))
      rw [Option.map_some, Option.bind_some, Option.bind_some, e3]
      by_cases hz : enc o = ds r
      · rw [if_pos hz, hz, if_pos rfl]; rfl
      · rw [if_neg hz, if_neg]; rfl
        intro he; injection he with _ he; injection he with _ he; injection he with _ he; injection he with _ he; exact hz he

/-- the two ways agree, whatever stood in the word -/
theorem decS_dec (l : List UInt8) (H : Nat) : decS H 0 l = dec l := by
  rcases letters l with ⟨l', rfl, h⟩ | ⟨p, c, r, rfl, hp, hc⟩
  · exact dec_ds l' h H
  · rw [decS_none p c r hp hc, dec, unS_none p c r hp hc]; rfl

theorem dec_some {l o : List UInt8} (h : dec l = some o) : enc o = l ∧ unS 0 0 l = some o := by
  unfold dec at h
  cases hu : unS 0 0 l with
  | none => rw [hu] at h; cases h
  | some o' =>
    rw [hu, Option.bind_some] at h
    by_cases he : enc o' = l
    · rw [if_pos he] at h; injection h with h; rw [← h]; exact ⟨he, rfl⟩
    · rw [if_neg he] at h; cases h
theorem dec_none {l o : List UInt8} (h : dec l = none) (hu : unS 0 0 l = some o) : enc o ≠ l := by
  intro he
  unfold dec at h
  rw [hu, Option.bind_some, if_pos he] at h; cases h

theorem unS_enc : ∀ l : List UInt8, unS 0 0 (enc l) = some l
  | [] => rfl
  | [a] => by
    have ha := a.toNat_lt
    show unS 0 0 [ltr (a.toNat * 65536 / 262144), ltr (a.toNat * 65536 / 4096 % 64)] = _
    rw [unS_ltr _ _ _ (by omega), if_pos (by decide), unS_ltr _ _ _ (by omega), if_neg (by decide), unS]
    have : UInt8.ofNat (((0 * 64 + a.toNat * 65536 / 262144) * 64 + a.toNat * 65536 / 4096 % 64) / 2 ^ (0 + 6 - 2)) = a := by
      apply UInt8.toNat_inj.1; rw [toNat_byte]; omega
    rw [this]; rfl
  | [a, b] => by
    have ha := a.toNat_lt
    have hb := b.toNat_lt
    obtain ⟨v, hv⟩ : ∃ v, v = a.toNat * 65536 + b.toNat * 256 := ⟨_, rfl⟩
    show unS 0 0 [ltr ((a.toNat * 65536 + b.toNat * 256) / 262144), ltr ((a.toNat * 65536 + b.toNat * 256) / 4096 % 64), ltr ((a.toNat * 65536 + b.toNat * 256) / 64 % 64)] = _
    rw [← hv]
    rw [unS_ltr _ _ _ (by omega), if_pos (by decide), unS_ltr _ _ _ (by omega), if_neg (by decide), unS_ltr _ _ _ (by omega), if_neg (by decide), unS]
    have h1 : UInt8.ofNat (((0 * 64 + v / 262144) * 64 + v / 4096 % 64) / 2 ^ (0 + 6 - 2)) = a := by
      apply UInt8.toNat_inj.1; rw [toNat_byte]; omega
    have h2 : UInt8.ofNat ((((0 * 64 + v / 262144) * 64 + v / 4096 % 64) % 2 ^ (0 + 6 - 2) * 64 + v / 64 % 64) / 2 ^ (0 + 6 - 2 - 2)) = b := by
      apply UInt8.toNat_inj.1; rw [toNat_byte]; omega
    rw [h1, h2]; rfl
  | a :: b :: c :: r => by
    have ha := a.toNat_lt
    have hb := b.toNat_lt
    have hc := c.toNat_lt
    obtain ⟨v, hv⟩ : ∃ v, v = a.toNat * 65536 + b.toNat * 256 + c.toNat := ⟨_, rfl⟩
    show unS 0 0 (ltr ((a.toNat * 65536 + b.toNat * 256 + c.toNat) / 262144) :: ltr ((a.toNat * 65536 + b.toNat * 256 + c.toNat) / 4096 % 64) :: ltr ((a.toNat * 65536 + b.toNat * 256 + c.toNat) / 64 % 64) :: ltr ((a.toNat * 65536 + b.toNat * 256 + c.toNat) % 64) :: enc r) = _
    rw [← hv]
    rw [unS_ltr _ _ _ (by omega), if_pos (by decide), unS_ltr _ _ _ (by omega), if_neg (by decide), unS_ltr _ _ _ (by omega), if_neg (by decide), unS_ltr _ _ _ (by omega), if_neg (by decide)]
    have h1 : UInt8.ofNat (((0 * 64 + v / 262144) * 64 + v / 4096 % 64) / 2 ^ (0 + 6 - 2)) = a := by
      apply UInt8.toNat_inj.1; rw [toNat_byte]; omega
    have h2 : UInt8.ofNat ((((0 * 64 + v / 262144) * 64 + v / 4096 % 64) % 2 ^ (0 + 6 - 2) * 64 + v / 64 % 64) / 2 ^ (0 + 6 - 2 - 2)) = b := by
      apply UInt8.toNat_inj.1; rw [toNat_byte]; omega
    have h3 : UInt8.ofNat (((((0 * 64 + v / 262144) * 64 + v / 4096 % 64) % 2 ^ (0 + 6 - 2) * 64 + v / 64 % 64) % 2 ^ (0 + 6 - 2 - 2) * 64 + v % 64) / 2 ^ (0 + 6 - 2 - 2 - 2)) = c := by
      apply UInt8.toNat_inj.1; rw [toNat_byte]; omega
    have h4 : ((((0 * 64 + v / 262144) * 64 + v / 4096 % 64) % 2 ^ (0 + 6 - 2) * 64 + v / 64 % 64) % 2 ^ (0 + 6 - 2 - 2) * 64 + v % 64) % 2 ^ (0 + 6 - 2 - 2 - 2) = 0 := by omega
    rw [h1, h2, h3, h4, show (0 + 6 - 2 - 2 - 2 : Nat) = 0 from rfl, unS_enc r]; rfl
theorem dec_enc (l : List UInt8) : dec (enc l) = some l := by unfold dec; rw [unS_enc, Option.bind_some, if_pos rfl]

theorem dec_bad (l : List UInt8) (c : UInt8) (hc : ix c = -1) : dec (l ++ [c]) = none := by
  have : unS 0 0 (l ++ [c]) = none := by
    rcases letters l with ⟨l', rfl, h⟩ | ⟨p, c', r, rfl, hp, hc'⟩
    · exact unS_none l' c [] h hc 0 0
    · rw [List.append_assoc]; exact unS_none p c' (r ++ [c]) hp hc' 0 0
  unfold dec; rw [this]; rfl
theorem dec_len {l : List UInt8} (h : l.length % 4 = 1) : dec l = none := by
  cases hd : dec l with
  | none => rfl
  | some o =>
    have := (dec_some hd).1
    have hl := enc_len o
    rw [this] at hl; omega
end Go.Proofs.YtefnkkjmcfpiaaaDoor
