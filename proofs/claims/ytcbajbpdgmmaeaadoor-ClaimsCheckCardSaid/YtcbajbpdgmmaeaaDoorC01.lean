/- Texts merged by program, in build order: B64, Form, Parts, Base. -/
import Derived.Lib.Bytealg
import Derived.Test.YtcbajbpdgmmaeaaDoorRows
import Derived.WalkKit
import Derived.WalkLawsBesides
import Derived.Lib.Hide
import Derived.Lib.Slices
import Derived.Outline
import Derived.BigQuiet
import Derived.Deep.QuietTactic
import Derived.Deep.RegionHeld3
import Derived.Laws.IdiomStrings
import Derived.LoopN
namespace Go.Proofs.YtcbajbpdgmmaeaaDoor

def ltrs : Array UInt8 := #[65, 66, 67, 68, 69, 70, 71, 72, 73, 74, 75, 76, 77, 78, 79, 80, 81, 82, 83, 84, 85, 86, 87, 88, 89, 90, 97, 98, 99, 100, 101, 102, 103, 104, 105, 106, 107, 108, 109, 110, 111, 112, 113, 114, 115, 116, 117, 118, 119, 120, 121, 122, 48, 49, 50, 51, 52, 53, 54, 55, 56, 57, 45, 95]
def ltr (n : Nat) : UInt8 := ltrs.getD n 0
theorem ltr_at {n : Nat} (h : n < (ByteArray.mk ltrs).size) : (ByteArray.mk ltrs)[n] = ltr n := by
  have h' : n < ltrs.size := h
  simp [ltr, h']; rfl

/-- the letter's number; -1: none -/
def ix (c : UInt8) : Int := Lib.indexByte ltrs.toList c

theorem ix_all : ∀ n : Nat, n < 256 → (ix (UInt8.ofNat n) = -1 ∨ (0 ≤ ix (UInt8.ofNat n) ∧ ix (UInt8.ofNat n) < 64 ∧ ltr (ix (UInt8.ofNat n)).toNat = UInt8.ofNat n)) := by decide +kernel
theorem ix_cases (c : UInt8) : ix c = -1 ∨ (0 ≤ ix c ∧ ix c < 64 ∧ ltr (ix c).toNat = c) := by
  have := ix_all c.toNat c.toNat_lt
  rwa [UInt8.ofNat_toNat] at this
theorem ix_ltr : ∀ n : Nat, n < 64 → ix (ltr n) = n := by decide +kernel
theorem ltr_inj {a b : Nat} (ha : a < 64) (hb : b < 64) (h : ltr a = ltr b) : a = b := by
  have h1 := ix_ltr a ha
  have h2 := ix_ltr b hb
  rw [h, h2] at h1; omega

/-- the last of the first k letters that is c -/
def ixTo (c : UInt8) : Nat → Int
  | 0 => -1
  | k + 1 => if (ltr k).toNat = c.toNat then k else ixTo c k
theorem ixTo_all : ∀ n : Nat, n < 256 → ixTo (UInt8.ofNat n) 64 = ix (UInt8.ofNat n) := by decide +kernel
theorem ixTo_ix (c : UInt8) : ixTo c 64 = ix c := by
  have := ixTo_all c.toNat c.toNat_lt
  rwa [UInt8.ofNat_toNat] at this

def chunk (v : Nat) : List UInt8 := [ltr (v / 262144), ltr (v / 4096 % 64), ltr (v / 64 % 64), ltr (v % 64)]
/-- base64url -/
def enc : List UInt8 → List UInt8
  | [] => []
  | [a] => (chunk (a.toNat * 65536)).take 2
  | [a, b] => (chunk (a.toNat * 65536 + b.toNat * 256)).take 3
  | a :: b :: c :: r => chunk (a.toNat * 65536 + b.toNat * 256 + c.toNat) ++ enc r

theorem enc_len : ∀ l : List UInt8, (enc l).length = (4 * l.length + 2) / 3
  | [] => rfl
  | [a] => by simp [enc, chunk]
  | [a, b] => by simp [enc, chunk]
  | a :: b :: c :: r => by
    have := enc_len r
    simp [enc, chunk]; omega

/-! ## the program's way: bit by bit, in a word of 32 bits -/
def push8 (H : Nat) (b : UInt8) : Nat := H * 256 % 4294967296 + b.toNat
def encS : Nat → Nat → List UInt8 → List UInt8
  | H, bits, [] => if bits = 0 then [] else if bits = 2 then [ltr (H * 16 % 4294967296 % 64)] else [ltr (H * 4 % 4294967296 % 64)]
  | H, bits, b :: r => if bits = 0 then ltr (push8 H b / 4 % 64) :: encS (push8 H b) 2 r else if bits = 2 then ltr (push8 H b / 16 % 64) :: encS (push8 H b) 4 r
    else ltr (push8 H b / 64 % 64) :: ltr (push8 H b % 64) :: encS (push8 H b) 0 r

theorem cons_ltr {a b : Nat} {r r' : List UInt8} (h : a = b) (h' : r = r') : ltr a :: r = ltr b :: r' := by rw [h, h']

theorem encS_0 (H : Nat) (b : UInt8) (r : List UInt8) : encS H 0 (b :: r) = ltr (push8 H b / 4 % 64) :: encS (push8 H b) 2 r := rfl
theorem encS_2 (H : Nat) (b : UInt8) (r : List UInt8) : encS H 2 (b :: r) = ltr (push8 H b / 16 % 64) :: encS (push8 H b) 4 r := rfl
theorem encS_4 (H : Nat) (b : UInt8) (r : List UInt8) : encS H 4 (b :: r) = ltr (push8 H b / 64 % 64) :: ltr (push8 H b % 64) :: encS (push8 H b) 0 r := rfl
theorem encS_end2 (H : Nat) : encS H 2 [] = [ltr (H * 16 % 4294967296 % 64)] := rfl
theorem encS_end4 (H : Nat) : encS H 4 [] = [ltr (H * 4 % 4294967296 % 64)] := rfl

theorem encS_enc : ∀ (l : List UInt8) (H : Nat), encS H 0 l = enc l
  | [], H => rfl
  | [a], H => by
    have ha := a.toNat_lt
    rw [encS_0, encS_end2]
    show _ = [ltr (a.toNat * 65536 / 262144), ltr (a.toNat * 65536 / 4096 % 64)]
    unfold push8
    exact cons_ltr (by omega) (cons_ltr (by omega) rfl)
  | [a, b], H => by
    have ha := a.toNat_lt
    have hb := b.toNat_lt
    rw [encS_0, encS_2, encS_end4]
    show _ = [ltr ((a.toNat * 65536 + b.toNat * 256) / 262144), ltr ((a.toNat * 65536 + b.toNat * 256) / 4096 % 64), ltr ((a.toNat * 65536 + b.toNat * 256) / 64 % 64)]
    unfold push8
    exact cons_ltr (by omega) (cons_ltr (by omega) (cons_ltr (by omega) rfl))
  | a :: b :: c :: r, H => by
    have ha := a.toNat_lt
    have hb := b.toNat_lt
    have hc := c.toNat_lt
    rw [encS_0, encS_2, encS_4, encS_enc r]
    show _ = ltr ((a.toNat * 65536 + b.toNat * 256 + c.toNat) / 262144) :: ltr ((a.toNat * 65536 + b.toNat * 256 + c.toNat) / 4096 % 64) :: ltr ((a.toNat * 65536 + b.toNat * 256 + c.toNat) / 64 % 64) :: ltr ((a.toNat * 65536 + b.toNat * 256 + c.toNat) % 64) :: enc r
    unfold push8
    exact cons_ltr (by omega) (cons_ltr (by omega) (cons_ltr (by omega) (cons_ltr (by omega) rfl)))

/-! ## reading -/
def push6 (H : Nat) (d : Nat) : Nat := H * 64 % 4294967296 + d
/-- the program's way -/
def decS : Nat → Nat → List UInt8 → Option (List UInt8)
  | H, bits, [] => if bits < 6 ∧ H % 2 ^ bits = 0 then some [] else none
  | H, bits, c :: r => if ix c < 0 then none else
    if bits < 2 then decS (push6 H (ix c).toNat) (bits + 6) r
    else (decS (push6 H (ix c).toNat) (bits - 2) r).map (UInt8.ofNat (push6 H (ix c).toNat / 2 ^ (bits - 2)) :: ·)
/-- the reference's way -/
def unS : Nat → Nat → List UInt8 → Option (List UInt8)
  | _, _, [] => some []
  | v, n, c :: r => if ix c < 0 then none else
    if n < 2 then unS (v * 64 + (ix c).toNat) (n + 6) r
    else (unS ((v * 64 + (ix c).toNat) % 2 ^ (n - 2)) (n - 2) r).map (UInt8.ofNat ((v * 64 + (ix c).toNat) / 2 ^ (n - 2)) :: ·)
/-- what a text is of -/
def dec (l : List UInt8) : Option (List UInt8) := (unS 0 0 l).bind fun o => if enc o = l then some o else none

/-- a text of letters is its numbers' -/
def ds (l : List Nat) : List UInt8 := l.map ltr
theorem letters (l : List UInt8) : (∃ l' : List Nat, l = ds l' ∧ ∀ d ∈ l', d < 64) ∨ ∃ p c r, l = ds p ++ c :: r ∧ (∀ d ∈ p, d < 64) ∧ ix c = -1 := by
  induction l with
  | nil => exact .inl ⟨[], rfl, by simp⟩
  | cons c l ih =>
    rcases ix_cases c with h | ⟨h0, h1, h2⟩
    · exact .inr ⟨[], c, l, rfl, by simp, h⟩
    · rcases ih with ⟨l', e, hl⟩ | ⟨p, c', r, e, hp, hc⟩
      · exact .inl ⟨(ix c).toNat :: l', by rw [e]; simp [ds, h2], by intro d hd; rcases List.mem_cons.1 hd with rfl | hd; omega; exact hl d hd⟩
      · exact .inr ⟨(ix c).toNat :: p, c', r, by rw [e]; simp [ds, h2], by intro d hd; rcases List.mem_cons.1 hd with rfl | hd; omega; exact hp d hd, hc⟩

theorem unS_none (p : List Nat) (c : UInt8) (r : List UInt8) (hp : ∀ d ∈ p, d < 64) (hc : ix c = -1) : ∀ v n, unS v n (ds p ++ c :: r) = none := by
  induction p with
  | nil => intro v n; show unS v n (c :: r) = none; rw [unS, if_pos (by omega)]
  | cons d p ih =>
    intro v n
    have ih' := ih fun d hd => hp d (List.mem_cons_of_mem _ hd)
    show unS v n (ltr d :: (ds p ++ c :: r)) = none
    rw [unS, ih', ih']; simp
theorem decS_none (p : List Nat) (c : UInt8) (r : List UInt8) (hp : ∀ d ∈ p, d < 64) (hc : ix c = -1) : ∀ v n, decS v n (ds p ++ c :: r) = none := by
  induction p with
  | nil => intro v n; show decS v n (c :: r) = none; rw [decS, if_pos (by omega)]
  | cons d p ih =>
    intro v n
    have ih' := ih fun d hd => hp d (List.mem_cons_of_mem _ hd)
    show decS v n (ltr d :: (ds p ++ c :: r)) = none
    rw [decS, ih', ih']; simp

theorem decS_ltr (H bits d : Nat) (hd : d < 64) (r : List UInt8) : decS H bits (ltr d :: r) = if bits < 2 then decS (push6 H d) (bits + 6) r else (decS (push6 H d) (bits - 2) r).map (UInt8.ofNat (push6 H d / 2 ^ (bits - 2)) :: ·) := by
  rw [decS, ix_ltr d hd, if_neg (by omega)]; rfl
theorem unS_ltr (v n d : Nat) (hd : d < 64) (r : List UInt8) : unS v n (ltr d :: r) = if n < 2 then unS (v * 64 + d) (n + 6) r else (unS ((v * 64 + d) % 2 ^ (n - 2)) (n - 2) r).map (UInt8.ofNat ((v * 64 + d) / 2 ^ (n - 2)) :: ·) := by
  rw [unS, ix_ltr d hd, if_neg (by omega)]; rfl
theorem byte_eq {a b : Nat} (h : a % 256 = b % 256) : UInt8.ofNat a = UInt8.ofNat b := by
  apply UInt8.toNat_inj.1; rw [UInt8.toNat_ofNat', UInt8.toNat_ofNat']; exact h

theorem toNat_byte (a : Nat) : (UInt8.ofNat a).toNat = a % 256 := UInt8.toNat_ofNat'

theorem dec_ds : ∀ (l : List Nat), (∀ d ∈ l, d < 64) → ∀ H, decS H 0 (ds l) = dec (ds l)
  | [], _, H => by simp [ds, decS, dec, unS, enc]; omega
  | [a], h, H => by
    have ha := h a (by simp)
    show decS H 0 [ltr a] = dec [ltr a]
    rw [decS_ltr _ _ _ ha, dec, unS_ltr _ _ _ ha]
    simp [decS, unS, enc]
  | [a, b], h, H => by
    have ha := h a (by simp)
    have hb := h b (by simp)
    show decS H 0 [ltr a, ltr b] = dec [ltr a, ltr b]
    have e1 : decS H 0 [ltr a, ltr b] = if b % 16 = 0 then some [UInt8.ofNat ((a * 64 + b) / 16)] else none := by
      rw [decS_ltr _ _ _ ha, if_pos (by decide), decS_ltr _ _ _ hb, if_neg (by decide), decS]
      have : push6 (push6 H a) b % 2 ^ (0 + 6 - 2) = b % 16 := by unfold push6; omega
      rw [this]
      have hy : UInt8.ofNat (push6 (push6 H a) b / 2 ^ (0 + 6 - 2)) = UInt8.ofNat ((a * 64 + b) / 16) := byte_eq (by unfold push6; omega)
      rw [hy]
      by_cases hz : b % 16 = 0 <;> simp [hz]
    have e2 : unS 0 0 [ltr a, ltr b] = some [UInt8.ofNat ((a * 64 + b) / 16)] := by
      rw [unS_ltr _ _ _ ha, if_pos (by decide), unS_ltr _ _ _ hb, if_neg (by decide), unS]; simp
    rw [e1, dec, e2, Option.bind_some]
    have e3 : enc [UInt8.ofNat ((a * 64 + b) / 16)] = [ltr a, ltr (b / 16 * 16)] := by
      show [ltr ((UInt8.ofNat ((a * 64 + b) / 16)).toNat * 65536 / 262144), ltr ((UInt8.ofNat ((a * 64 + b) / 16)).toNat * 65536 / 4096 % 64)] = _
      rw [toNat_byte]
      exact cons_ltr (by omega) (cons_ltr (by omega) rfl)
    rw [e3]
    by_cases hz : b % 16 = 0
    · rw [if_pos hz, if_pos (cons_ltr rfl (cons_ltr (by omega) rfl))]
    · rw [if_neg hz, if_neg]
      intro he; injection he with _ he; injection he with he _
      have := ltr_inj (by omega) hb he; omega
  | [a, b, c], h, H => by
    have ha := h a (by simp)
    have hb := h b (by simp)
    have hc := h c (by simp)
    show decS H 0 [ltr a, ltr b, ltr c] = dec [ltr a, ltr b, ltr c]
    have e1 : decS H 0 [ltr a, ltr b, ltr c] = if c % 4 = 0 then some [UInt8.ofNat ((a * 64 + b) / 16), UInt8.ofNat ((b * 64 + c) / 4)] else none := by
      rw [decS_ltr _ _ _ ha, if_pos (by decide), decS_ltr _ _ _ hb, if_neg (by decide), decS_ltr _ _ _ hc, if_neg (by decide), decS]
      have : push6 (push6 (push6 H a) b) c % 2 ^ (0 + 6 - 2 - 2) = c % 4 := by unfold push6; omega
      rw [this]
      have hy : UInt8.ofNat (push6 (push6 H a) b / 2 ^ (0 + 6 - 2)) = UInt8.ofNat ((a * 64 + b) / 16) := byte_eq (by unfold push6; omega)
      have hy' : UInt8.ofNat (push6 (push6 (push6 H a) b) c / 2 ^ (0 + 6 - 2 - 2)) = UInt8.ofNat ((b * 64 + c) / 4) := byte_eq (by unfold push6; omega)
      rw [hy, hy']
      by_cases hz : c % 4 = 0 <;> simp [hz]
    have e2 : unS 0 0 [ltr a, ltr b, ltr c] = some [UInt8.ofNat ((a * 64 + b) / 16), UInt8.ofNat ((b * 64 + c) / 4)] := by
      rw [unS_ltr _ _ _ ha, if_pos (by decide), unS_ltr _ _ _ hb, if_neg (by decide), unS_ltr _ _ _ hc, if_neg (by decide), unS]
      have hy : UInt8.ofNat (((0 * 64 + a) * 64 + b) / 2 ^ (0 + 6 - 2)) = UInt8.ofNat ((a * 64 + b) / 16) := byte_eq (by omega)
      have hy' : UInt8.ofNat ((((0 * 64 + a) * 64 + b) % 2 ^ (0 + 6 - 2) * 64 + c) / 2 ^ (0 + 6 - 2 - 2)) = UInt8.ofNat ((b * 64 + c) / 4) := byte_eq (by omega)
      rw [hy, hy']; rfl
    rw [e1, dec, e2, Option.bind_some]
    have e3 : enc [UInt8.ofNat ((a * 64 + b) / 16), UInt8.ofNat ((b * 64 + c) / 4)] = [ltr a, ltr b, ltr (c / 4 * 4)] := by
      show [ltr (((UInt8.ofNat ((a * 64 + b) / 16)).toNat * 65536 + (UInt8.ofNat ((b * 64 + c) / 4)).toNat * 256) / 262144), ltr (((UInt8.ofNat ((a * 64 + b) / 16)).toNat * 65536 + (UInt8.ofNat ((b * 64 + c) / 4)).toNat * 256) / 4096 % 64), ltr (((UInt8.ofNat ((a * 64 + b) / 16)).toNat * 65536 + (UInt8.ofNat ((b * 64 + c) / 4)).toNat * 256) / 64 % 64)] = _
      rw [toNat_byte, toNat_byte]
      exact cons_ltr (by omega) (cons_ltr (by omega) (cons_ltr (by omega) rfl))
    rw [e3]
    by_cases hz : c % 4 = 0
    · rw [if_pos hz, if_pos (cons_ltr rfl (cons_ltr rfl (cons_ltr (by omega) rfl)))]
    · rw [if_neg hz, if_neg]
      intro he; injection he with _ he; injection he with _ he; injection he with he _
      have := ltr_inj (by omega) hc he; omega
  | a :: b :: c :: d :: r, h, H => by
    have ha := h a (by simp)
    have hb := h b (by simp)
    have hc := h c (by simp)
    have hd := h d (by simp)
    have ih := dec_ds r (fun x hx => h x (by simp [hx]))
    show decS H 0 (ltr a :: ltr b :: ltr c :: ltr d :: ds r) = dec (ltr a :: ltr b :: ltr c :: ltr d :: ds r)
    have e1 : decS H 0 (ltr a :: ltr b :: ltr c :: ltr d :: ds r) = (dec (ds r)).map ([UInt8.ofNat ((a * 64 + b) / 16), UInt8.ofNat ((b * 64 + c) / 4), UInt8.ofNat (c * 64 + d)] ++ ·) := by
      rw [decS_ltr _ _ _ ha, if_pos (by decide), decS_ltr _ _ _ hb, if_neg (by decide), decS_ltr _ _ _ hc, if_neg (by decide), decS_ltr _ _ _ hd, if_neg (by decide)]
      have hy : UInt8.ofNat (push6 (push6 H a) b / 2 ^ (0 + 6 - 2)) = UInt8.ofNat ((a * 64 + b) / 16) := byte_eq (by unfold push6; omega)
      have hy' : UInt8.ofNat (push6 (push6 (push6 H a) b) c / 2 ^ (0 + 6 - 2 - 2)) = UInt8.ofNat ((b * 64 + c) / 4) := byte_eq (by unfold push6; omega)
      have hy'' : UInt8.ofNat (push6 (push6 (push6 (push6 H a) b) c) d / 2 ^ (0 + 6 - 2 - 2 - 2)) = UInt8.ofNat (c * 64 + d) := byte_eq (by unfold push6; omega)
      rw [hy, hy', hy'', show (0 + 6 - 2 - 2 - 2 : Nat) = 0 from rfl, ih, Option.map_map, Option.map_map]; rfl
    have e2 : unS 0 0 (ltr a :: ltr b :: ltr c :: ltr d :: ds r) = (unS 0 0 (ds r)).map ([UInt8.ofNat ((a * 64 + b) / 16), UInt8.ofNat ((b * 64 + c) / 4), UInt8.ofNat (c * 64 + d)] ++ ·) := by
      rw [unS_ltr _ _ _ ha, if_pos (by decide), unS_ltr _ _ _ hb, if_neg (by decide), unS_ltr _ _ _ hc, if_neg (by decide), unS_ltr _ _ _ hd, if_neg (by decide)]
      have hy : UInt8.ofNat (((0 * 64 + a) * 64 + b) / 2 ^ (0 + 6 - 2)) = UInt8.ofNat ((a * 64 + b) / 16) := byte_eq (by omega)
      have hy' : UInt8.ofNat ((((0 * 64 + a) * 64 + b) % 2 ^ (0 + 6 - 2) * 64 + c) / 2 ^ (0 + 6 - 2 - 2)) = UInt8.ofNat ((b * 64 + c) / 4) := byte_eq (by omega)
      have hy'' : UInt8.ofNat (((((0 * 64 + a) * 64 + b) % 2 ^ (0 + 6 - 2) * 64 + c) % 2 ^ (0 + 6 - 2 - 2) * 64 + d) / 2 ^ (0 + 6 - 2 - 2 - 2)) = UInt8.ofNat (c * 64 + d) := byte_eq (by omega)
      have hv : ((((0 * 64 + a) * 64 + b) % 2 ^ (0 + 6 - 2) * 64 + c) % 2 ^ (0 + 6 - 2 - 2) * 64 + d) % 2 ^ (0 + 6 - 2 - 2 - 2) = 0 := by omega
      rw [hy, hy', hy'', hv, show (0 + 6 - 2 - 2 - 2 : Nat) = 0 from rfl, Option.map_map, Option.map_map]; rfl
    rw [e1]
    unfold dec
    rw [e2]
    cases unS 0 0 (ds r) with
    | none => rfl
    | some o =>
      have e3 : enc ([UInt8.ofNat ((a * 64 + b) / 16), UInt8.ofNat ((b * 64 + c) / 4), UInt8.ofNat (c * 64 + d)] ++ o) = ltr a :: ltr b :: ltr c :: ltr d :: enc o := by
        show chunk ((UInt8.ofNat ((a * 64 + b) / 16)).toNat * 65536 + (UInt8.ofNat ((b * 64 + c) / 4)).toNat * 256 + (UInt8.ofNat (c * 64 + d)).toNat) ++ enc o = _
        rw [toNat_byte, toNat_byte, toNat_byte]
        exact cons_ltr (by omega) (cons_ltr (by omega) (cons_ltr (by omega) (cons_ltr (by omega) rfl)))
      rw [Option.map_some, Option.bind_some, Option.bind_some, e3]
      by_cases hz : enc o = ds r
      · rw [if_pos hz, hz, if_pos rfl]; rfl
      · rw [if_neg hz, if_neg]; rfl
        intro he; injection he with _ he; injection he with _ he; injection he with _ he; injection he with _ he; exact hz he

/-- the two ways agree, whatever stood in the word -/
theorem decS_dec (l : List UInt8) (H : Nat) : decS H 0 l = dec l := by
  rcases letters l with ⟨l', rfl, h⟩ | ⟨p, c, r, rfl, hp, hc⟩
  · exact dec_ds l' h H
  · rw [decS_none p c r hp hc, dec, unS_none p c r hp hc]; rfl

theorem dec_some {l o : List UInt8} (h : dec l = some o) : enc o = l ∧ unS 0 0 l = some o := by
  unfold dec at h
  cases hu : unS 0 0 l with
  | none => rw [hu] at h; cases h
  | some o' =>
    rw [hu, Option.bind_some] at h
    by_cases he : enc o' = l
    · rw [if_pos he] at h; injection h with h; rw [← h]; exact ⟨he, rfl⟩
    · rw [if_neg he] at h; cases h
theorem dec_none {l o : List UInt8} (h : dec l = none) (hu : unS 0 0 l = some o) : enc o ≠ l := by
  intro he
  unfold dec at h
  rw [hu, Option.bind_some, if_pos he] at h; cases h

theorem unS_enc : ∀ l : List UInt8, unS 0 0 (enc l) = some l
  | [] => rfl
  | [a] => by
    have ha := a.toNat_lt
    show unS 0 0 [ltr (a.toNat * 65536 / 262144), ltr (a.toNat * 65536 / 4096 % 64)] = _
    rw [unS_ltr _ _ _ (by omega), if_pos (by decide), unS_ltr _ _ _ (by omega), if_neg (by decide), unS]
    have : UInt8.ofNat (((0 * 64 + a.toNat * 65536 / 262144) * 64 + a.toNat * 65536 / 4096 % 64) / 2 ^ (0 + 6 - 2)) = a := by
      apply UInt8.toNat_inj.1; rw [toNat_byte]; omega
    rw [this]; rfl
  | [a, b] => by
    have ha := a.toNat_lt
    have hb := b.toNat_lt
    obtain ⟨v, hv⟩ : ∃ v, v = a.toNat * 65536 + b.toNat * 256 := ⟨_, rfl⟩
    show unS 0 0 [ltr ((a.toNat * 65536 + b.toNat * 256) / 262144), ltr ((a.toNat * 65536 + b.toNat * 256) / 4096 % 64), ltr ((a.toNat * 65536 + b.toNat * 256) / 64 % 64)] = _
    rw [← hv]
    rw [unS_ltr _ _ _ (by omega), if_pos (by decide), unS_ltr _ _ _ (by omega), if_neg (by decide), unS_ltr _ _ _ (by omega), if_neg (by decide), unS]
    have h1 : UInt8.ofNat (((0 * 64 + v / 262144) * 64 + v / 4096 % 64) / 2 ^ (0 + 6 - 2)) = a := by
      apply UInt8.toNat_inj.1; rw [toNat_byte]; omega
    have h2 : UInt8.ofNat ((((0 * 64 + v / 262144) * 64 + v / 4096 % 64) % 2 ^ (0 + 6 - 2) * 64 + v / 64 % 64) / 2 ^ (0 + 6 - 2 - 2)) = b := by
      apply UInt8.toNat_inj.1; rw [toNat_byte]; omega
    rw [h1, h2]; rfl
  | a :: b :: c :: r => by
    have ha := a.toNat_lt
    have hb := b.toNat_lt
    have hc := c.toNat_lt
    obtain ⟨v, hv⟩ : ∃ v, v = a.toNat * 65536 + b.toNat * 256 + c.toNat := ⟨_, rfl⟩
    show unS 0 0 (ltr ((a.toNat * 65536 + b.toNat * 256 + c.toNat) / 262144) :: ltr ((a.toNat * 65536 + b.toNat * 256 + c.toNat) / 4096 % 64) :: ltr ((a.toNat * 65536 + b.toNat * 256 + c.toNat) / 64 % 64) :: ltr ((a.toNat * 65536 + b.toNat * 256 + c.toNat) % 64) :: enc r) = _
    rw [← hv]
    rw [unS_ltr _ _ _ (by omega), if_pos (by decide), unS_ltr _ _ _ (by omega), if_neg (by decide), unS_ltr _ _ _ (by omega), if_neg (by decide), unS_ltr _ _ _ (by omega), if_neg (by decide)]
    have h1 : UInt8.ofNat (((0 * 64 + v / 262144) * 64 + v / 4096 % 64) / 2 ^ (0 + 6 - 2)) = a := by
      apply UInt8.toNat_inj.1; rw [toNat_byte]; omega
    have h2 : UInt8.ofNat ((((0 * 64 + v / 262144) * 64 + v / 4096 % 64) % 2 ^ (0 + 6 - 2) * 64 + v / 64 % 64) / 2 ^ (0 + 6 - 2 - 2)) = b := by
      apply UInt8.toNat_inj.1; rw [toNat_byte]; omega
    have h3 : UInt8.ofNat (((((0 * 64 + v / 262144) * 64 + v / 4096 % 64) % 2 ^ (0 + 6 - 2) * 64 + v / 64 % 64) % 2 ^ (0 + 6 - 2 - 2) * 64 + v % 64) / 2 ^ (0 + 6 - 2 - 2 - 2)) = c := by
      apply UInt8.toNat_inj.1; rw [toNat_byte]; omega
    have h4 : ((((0 * 64 + v / 262144) * 64 + v / 4096 % 64) % 2 ^ (0 + 6 - 2) * 64 + v / 64 % 64) % 2 ^ (0 + 6 - 2 - 2) * 64 + v % 64) % 2 ^ (0 + 6 - 2 - 2 - 2) = 0 := by omega
    rw [h1, h2, h3, h4, show (0 + 6 - 2 - 2 - 2 : Nat) = 0 from rfl, unS_enc r]; rfl
theorem dec_enc (l : List UInt8) : dec (enc l) = some l := by unfold dec; rw [unS_enc, Option.bind_some, if_pos rfl]

theorem dec_bad (l : List UInt8) (c : UInt8) (hc : ix c = -1) : dec (l ++ [c]) = none := by
  have : unS 0 0 (l ++ [c]) = none := by
    rcases letters l with ⟨l', rfl, h⟩ | ⟨p, c', r, rfl, hp, hc'⟩
    · exact unS_none l' c [] h hc 0 0
    · rw [List.append_assoc]; exact unS_none p c' (r ++ [c]) hp hc' 0 0
  unfold dec; rw [this]; rfl
theorem dec_len {l : List UInt8} (h : l.length % 4 = 1) : dec l = none := by
  cases hd : dec l with
  | none => rfl
  | some o =>
    have := (dec_some hd).1
    have hl := enc_len o
    rw [this] at hl; omega
end Go.Proofs.YtcbajbpdgmmaeaaDoor
namespace Go.Proofs.YtcbajbpdgmmaeaaDoor

theorem drop_cons (l : List UInt8) (k : Nat) (h : k < l.length) : l.drop k = l[k] :: l.drop (k + 1) := List.drop_eq_getElem_cons h
/-- what stands as it is in a form -/
def plainB (c : UInt8) : Bool := decide (97 ≤ c.toNat ∧ c.toNat ≤ 122 ∨ 65 ≤ c.toNat ∧ c.toNat ≤ 90 ∨ 48 ≤ c.toNat ∧ c.toNat ≤ 57 ∨ c.toNat = 45 ∨ c.toNat = 46 ∨ c.toNat = 95 ∨ c.toNat = 126)
def alnumB (c : UInt8) : Bool := decide (97 ≤ c.toNat ∧ c.toNat ≤ 122 ∨ 65 ≤ c.toNat ∧ c.toNat ≤ 90 ∨ 48 ≤ c.toNat ∧ c.toNat ≤ 57)

/-- a hexadecimal digit's number; -1: none -/
def hexI (c : UInt8) : Int := if 48 ≤ c.toNat ∧ c.toNat ≤ 57 then c.toNat - 48 else if 65 ≤ c.toNat ∧ c.toNat ≤ 70 then c.toNat - 55 else if 97 ≤ c.toNat ∧ c.toNat ≤ 102 then c.toNat - 87 else -1
theorem hexI_spec (c : UInt8) : (48 ≤ (c.toNat : Int) ∧ (c.toNat : Int) ≤ 57 ∧ hexI c = c.toNat - 48) ∨ (65 ≤ (c.toNat : Int) ∧ (c.toNat : Int) ≤ 70 ∧ hexI c = c.toNat - 55) ∨ (97 ≤ (c.toNat : Int) ∧ (c.toNat : Int) ≤ 102 ∧ hexI c = c.toNat - 87) ∨
    (((c.toNat : Int) < 48 ∨ 57 < (c.toNat : Int) ∧ (c.toNat : Int) < 65 ∨ 70 < (c.toNat : Int) ∧ (c.toNat : Int) < 97 ∨ 102 < (c.toNat : Int)) ∧ hexI c = -1) := by
  unfold hexI
  split
  · omega
  · split
    · omega
    · split <;> omega

def hexU (n : Nat) : UInt8 := (#[48, 49, 50, 51, 52, 53, 54, 55, 56, 57, 65, 66, 67, 68, 69, 70] : Array UInt8).getD n 0
def hexBytes : ByteArray := ⟨#[48, 49, 50, 51, 52, 53, 54, 55, 56, 57, 65, 66, 67, 68, 69, 70]⟩
theorem hexU_at {n : Nat} (h : n < hexBytes.size) : hexBytes[n] = hexU n := by
  have h' : n < hexBytes.data.size := h
  show hexBytes.data[n] = hexBytes.data.getD n 0
  rw [Array.getD_eq_getD_getElem?, Array.getElem?_eq_getElem h']; rfl
def quote1 (c : UInt8) : List UInt8 := if plainB c then [c] else [37, hexU (c.toNat / 16), hexU (c.toNat % 16)]
def quoteL (l : List UInt8) : List UInt8 := l.flatMap quote1
theorem quoteL_snoc (l : List UInt8) (c : UInt8) : quoteL (l ++ [c]) = quoteL l ++ quote1 c := by simp [quoteL]
theorem quoteL_le (l : List UInt8) : (quoteL l).length ≤ 3 * l.length := by
  induction l with
  | nil => simp [quoteL]
  | cons c l ih =>
    have : quoteL (c :: l) = quote1 c ++ quoteL l := by simp [quoteL]
    rw [this, List.length_append]
    have : (quote1 c).length ≤ 3 := by unfold quote1; split <;> simp
    simp; omega

def digN (c : UInt8) : Int := if hexI c < 0 then 0 else hexI c
def digB (c : UInt8) : Bool := decide (0 ≤ hexI c)
theorem hexI_bd (c : UInt8) : -1 ≤ hexI c ∧ hexI c ≤ 15 := by have := hexI_spec c; omega
theorem digN_bd (c : UInt8) : 0 ≤ digN c ∧ digN c ≤ 15 := by have := hexI_bd c; unfold digN; split <;> omega
theorem digN_of {c : UInt8} (h : digB c = true) : digN c = hexI c ∧ 0 ≤ hexI c := by
  have : 0 ≤ hexI c := by simpa [digB] using h
  unfold digN; rw [if_neg (by omega)]; exact ⟨rfl, this⟩


def hexByte (a b : UInt8) : UInt8 := UInt8.ofNat (16 * digN a + digN b).toNat
theorem hexByte_toNat (a b : UInt8) : ((hexByte a b).toNat : Int) = 16 * digN a + digN b := by
  have := digN_bd a; have := digN_bd b
  unfold hexByte; rw [UInt8.toNat_ofNat']; omega

/-- what a text stands for in a form -/
def unq : List UInt8 → Option (List UInt8)
  | [] => some []
  | c :: r =>
    if c.toNat = 43 then (unq r).map (32 :: ·)
    else if c.toNat = 37 then
      match r with
      | a :: b :: r' => if digB a && digB b then (unq r').map (hexByte a b :: ·) else none
      | _ => none
    else (unq r).map (c :: ·)

theorem unq_plus {c : UInt8} (r : List UInt8) (h : c.toNat = 43) : unq (c :: r) = (unq r).map (32 :: ·) := by
  rcases r with _ | ⟨a, _ | ⟨b, r⟩⟩
  · simp [unq, h]
  · simp [unq, h]
  · rw [unq, if_pos h]
theorem unq_same {c : UInt8} (r : List UInt8) (h : c.toNat ≠ 43) (h' : c.toNat ≠ 37) : unq (c :: r) = (unq r).map (c :: ·) := by
  rcases r with _ | ⟨a, _ | ⟨b, r⟩⟩
  · simp [unq, h, h']
  · simp [unq, h, h']
  · rw [unq, if_neg h, if_neg h']
theorem unq_hex {c : UInt8} (a b : UInt8) (r : List UInt8) (h' : c.toNat = 37) : unq (c :: a :: b :: r) = if digB a && digB b then (unq r).map (hexByte a b :: ·) else none := by
  rw [unq, if_neg (by omega), if_pos h']
theorem unq_short {c : UInt8} (r : List UInt8) (h' : c.toNat = 37) (hr : r.length ≤ 1) : unq (c :: r) = none := by
  rcases r with _ | ⟨a, _ | ⟨b, r⟩⟩
  · rw [unq, if_neg (by omega), if_pos h']; simp
  · rw [unq, if_neg (by omega), if_pos h']; simp
  · simp at hr

def UnqAt (l : List UInt8) (k : Nat) (acc : List UInt8) : Prop := unq l = (unq (l.drop k)).map (acc ++ ·)
theorem unqAt_start (l : List UInt8) : UnqAt l 0 [] := by unfold UnqAt; simp
theorem unqAt_end {l acc : List UInt8} (h : UnqAt l l.length acc) : unq l = some acc := by unfold UnqAt at h; rw [h]; simp [unq]
theorem unqAt_plus {l acc : List UInt8} {k : Nat} (h : UnqAt l k acc) (hk : k < l.length) (hc : l[k].toNat = 43) : UnqAt l (k + 1) (acc ++ [32]) := by
  unfold UnqAt at h ⊢
  rw [h, drop_cons l k hk, unq_plus _ hc, Option.map_map]; congr 1; funext x; simp
theorem unqAt_same {l acc : List UInt8} {k : Nat} (h : UnqAt l k acc) (hk : k < l.length) (hc : l[k].toNat ≠ 43) (hc' : l[k].toNat ≠ 37) : UnqAt l (k + 1) (acc ++ [l[k]]) := by
  unfold UnqAt at h ⊢
  rw [h, drop_cons l k hk, unq_same _ hc hc', Option.map_map]; congr 1; funext x; simp
theorem unqAt_hex {l acc : List UInt8} {k : Nat} (h : UnqAt l k acc) (hk : k + 2 < l.length) (hc' : l[k].toNat = 37) (ha : digB l[k + 1] = true) (hb : digB l[k + 2] = true) :
    UnqAt l (k + 3) (acc ++ [hexByte l[k + 1] l[k + 2]]) := by
  unfold UnqAt at h ⊢
  rw [h, drop_cons l k (by omega), drop_cons l (k + 1) (by omega), drop_cons l (k + 2) (by omega), unq_hex _ _ _ hc']
  simp only [ha, hb, Bool.and_self, if_true]
  rw [Option.map_map]; congr 1; funext x; simp
theorem unqAt_short {l acc : List UInt8} {k : Nat} (h : UnqAt l k acc) (hk : k < l.length) (hs : l.length ≤ k + 2) (hc' : l[k].toNat = 37) : unq l = none := by
  unfold UnqAt at h
  rw [h, drop_cons l k hk, unq_short _ hc' (by simp; omega)]; rfl
theorem unqAt_bad {l acc : List UInt8} {k : Nat} (h : UnqAt l k acc) (hk : k + 2 < l.length) (hc' : l[k].toNat = 37) (ha : digB l[k + 1] = false ∨ digB l[k + 2] = false) : unq l = none := by
  unfold UnqAt at h
  rw [h, drop_cons l k (by omega), drop_cons l (k + 1) (by omega), drop_cons l (k + 2) (by omega), unq_hex _ _ _ hc']
  have : (digB l[k + 1] && digB l[k + 2]) = false := by rcases ha with h | h <;> simp [h]
  simp only [this, Bool.false_eq_true, if_false]; rfl

theorem hexU_all : ∀ n : Nat, n < 256 → digB (hexU (n / 16)) = true ∧ digB (hexU (n % 16)) = true ∧ hexByte (hexU (n / 16)) (hexU (n % 16)) = UInt8.ofNat n := by decide +kernel
theorem plain_not (c : UInt8) (h : plainB c = true) : c.toNat ≠ 43 ∧ c.toNat ≠ 37 := by simp [plainB] at h; omega
theorem unq_quote1 (c : UInt8) (r : List UInt8) : unq (quote1 c ++ r) = (unq r).map (c :: ·) := by
  unfold quote1
  split
  · rename_i h
    exact unq_same _ (plain_not c h).1 (plain_not c h).2
  · have := hexU_all c.toNat c.toNat_lt
    show unq (37 :: hexU (c.toNat / 16) :: hexU (c.toNat % 16) :: r) = _
    rw [unq_hex _ _ _ (by decide), this.1, this.2.1, this.2.2, UInt8.ofNat_toNat]; rfl
theorem unq_quoteL (l : List UInt8) : unq (quoteL l) = some l := by
  induction l with
  | nil => rfl
  | cons c l ih =>
    have : quoteL (c :: l) = quote1 c ++ quoteL l := by simp [quoteL]
    rw [this, unq_quote1, ih]; rfl

end Go.Proofs.YtcbajbpdgmmaeaaDoor
namespace Go.Proofs.YtcbajbpdgmmaeaaDoor

/-- where a byte stands first; the length: nowhere -/
def atL (c : UInt8) : List UInt8 → Nat
  | [] => 0
  | x :: r => if x = c then 0 else atL c r + 1
theorem atL_le (c : UInt8) (l : List UInt8) : atL c l ≤ l.length := by
  induction l with
  | nil => simp [atL]
  | cons x r ih => unfold atL; split <;> simp <;> omega
theorem atL_hit (c : UInt8) (l : List UInt8) (h : atL c l < l.length) : l[atL c l] = c := by
  induction l with
  | nil => simp at h
  | cons x r ih =>
    by_cases e : x = c
    · simp [atL, e]
    · have e' : atL c (x :: r) = atL c r + 1 := by simp [atL, e]
      simp only [e'] at h ⊢
      simp at h ⊢
      exact ih h
theorem atL_before (c : UInt8) (l : List UInt8) (k : Nat) (hk : k < atL c l) (h : k < l.length) : l[k] ≠ c := by
  induction l generalizing k with
  | nil => simp at h
  | cons x r ih =>
    by_cases e : x = c
    · simp [atL, e] at hk
    · have e' : atL c (x :: r) = atL c r + 1 := by simp [atL, e]
      cases k with
      | zero => simpa using e
      | succ k => simp at h ⊢; exact ih k (by omega) h
theorem atL_is (c : UInt8) (l : List UInt8) (k : Nat) (hk : k ≤ l.length) (hb : ∀ j (hj : j < l.length), j < k → l[j] ≠ c) (hh : ∀ h : k < l.length, l[k] = c) : atL c l = k := by
  rcases Nat.lt_trichotomy (atL c l) k with h | h | h
  · exact absurd (atL_hit c l (by omega)) (hb _ (by omega) h)
  · exact h
  · have := atL_le c l
    exact absurd (hh (by omega)) (atL_before c l k h (by omega))
theorem atL_app (c : UInt8) (a b : List UInt8) (h : c ∉ a) : atL c (a ++ b) = a.length + atL c b := by
  induction a with
  | nil => simp
  | cons x r ih =>
    simp at h
    have hx : x ≠ c := fun e => h.1 e.symm
    simp [atL, hx, ih h.2]; omega
theorem atL_none (c : UInt8) (a : List UInt8) (h : c ∉ a) : atL c a = a.length := by
  have := atL_app c a [] h; simpa [atL] using this
theorem atL_index (c : UInt8) (l : List UInt8) : Lib.indexByte l c = if atL c l < l.length then (atL c l : Int) else -1 := by
  induction l with
  | nil => simp [Lib.indexByte]
  | cons x r ih =>
    by_cases e : x = c
    · simp [Lib.indexByte, atL, e]
    · have e' : (x == c) = false := by simpa using e
      unfold Lib.indexByte atL
      rw [if_neg e, e', ih]
      by_cases h : atL c r < r.length
      · have h' : atL c r + 1 < (x :: r).length := by simp; omega
        rw [if_pos h, if_pos h']
        have : ((atL c r : Int) == -1) = false := by simp
        simp [this]
      · have h' : ¬ atL c r + 1 < (x :: r).length := by simp; omega
        rw [if_neg h, if_neg h']; simp

/-- a text's parts between a byte -/
def splitL (c : UInt8) : List UInt8 → List (List UInt8)
  | [] => [[]]
  | x :: r => if x = c then [] :: splitL c r else (match splitL c r with | [] => [[x]] | h :: t => (x :: h) :: t)
theorem splitL_cons (c x : UInt8) (r : List UInt8) : splitL c (x :: r) = if x = c then [] :: splitL c r else (match splitL c r with | [] => [[x]] | h :: t => (x :: h) :: t) := rfl
theorem splitL_at (c : UInt8) (l : List UInt8) : splitL c l = if atL c l < l.length then l.take (atL c l) :: splitL c (l.drop (atL c l + 1)) else [l] := by
  induction l with
  | nil => simp [splitL]
  | cons x r ih =>
    by_cases e : x = c
    · simp [splitL, atL, e]
    · have e' : atL c (x :: r) = atL c r + 1 := by simp [atL, e]
      rw [splitL_cons, if_neg e, e', ih]
      by_cases h : atL c r < r.length
      · have h' : atL c r + 1 < (x :: r).length := by simp; omega
        rw [if_pos h, if_pos h']; simp
      · have h' : ¬ atL c r + 1 < (x :: r).length := by simp; omega
        rw [if_neg h, if_neg h']
theorem splitL_more {c : UInt8} {l : List UInt8} (h : atL c l < l.length) : splitL c l = l.take (atL c l) :: splitL c (l.drop (atL c l + 1)) := by
  rw [splitL_at, if_pos h]
theorem splitL_last {c : UInt8} {l : List UInt8} (h : l.length ≤ atL c l) : splitL c l = [l] := by
  rw [splitL_at, if_neg (by omega)]
theorem splitL_len (c : UInt8) (l : List UInt8) : (splitL c l).length ≤ l.length + 1 := by
  induction l with
  | nil => simp [splitL]
  | cons x r ih =>
    unfold splitL
    split
    · simp; omega
    · split
      · simp
      · rename_i h t e; rw [e] at ih; simp at ih ⊢; omega
theorem splitL_each (c : UInt8) (l : List UInt8) : ∀ p ∈ splitL c l, p.length ≤ l.length := by
  induction l with
  | nil => simp [splitL]
  | cons x r ih =>
    unfold splitL
    split
    · intro p hp; simp at hp; rcases hp with rfl | hp
      · simp
      · have := ih p hp; simp; omega
    · split
      · intro p hp; simp at hp; subst hp; simp
      · rename_i h t e
        rw [e] at ih
        intro p hp; simp at hp
        rcases hp with rfl | hp
        · have := ih h (by simp); simp; omega
        · have := ih p (by simp [hp]); simp; omega

/-- the parts between & that are not empty -/
def partsL (l : List UInt8) : List (List UInt8) := (splitL 38 l).filter (fun p => !p.isEmpty)
def one1 (p : List UInt8) : List (List UInt8) := if p = [] then [] else [p]
theorem filter_one1 (p : List UInt8) (r : List (List UInt8)) : (p :: r).filter (fun p => !p.isEmpty) = one1 p ++ r.filter (fun p => !p.isEmpty) := by
  cases p <;> simp [one1]
theorem partsL_more {l : List UInt8} (h : atL 38 l < l.length) : partsL l = one1 (l.take (atL 38 l)) ++ partsL (l.drop (atL 38 l + 1)) := by
  unfold partsL; rw [splitL_more h, filter_one1]
theorem partsL_last {l : List UInt8} (h : l.length ≤ atL 38 l) : partsL l = one1 l := by
  unfold partsL; rw [splitL_last h, filter_one1]; simp
theorem partsL_app (a b : List UInt8) (h : (38 : UInt8) ∉ a) : partsL (a ++ 38 :: b) = one1 a ++ partsL b := by
  have e : atL 38 (a ++ 38 :: b) = a.length := by rw [atL_app _ _ _ h]; simp [atL]
  rw [partsL_more (by rw [e]; simp), e]
  simp
theorem partsL_one (a : List UInt8) (h : (38 : UInt8) ∉ a) : partsL a = one1 a := partsL_last (by rw [atL_none _ _ h]; exact Nat.le_refl _)
theorem partsL_amp (b : List UInt8) : partsL (38 :: b) = partsL b := by
  have := partsL_app [] b (by simp); simpa [one1] using this
theorem partsL_amps (n : Nat) (b : List UInt8) : partsL (List.replicate n 38 ++ b) = partsL b := by
  induction n with
  | zero => simp
  | succ n ih => rw [List.replicate_succ, List.cons_append, partsL_amp, ih]

/-- the pair that a part stands for -/
def pairL (p : List UInt8) : Option (List UInt8 × List UInt8) :=
  match unq (p.take (atL 61 p)), unq (p.drop (atL 61 p + 1)) with
  | some a, some b => some (a, b)
  | _, _ => none
theorem pairL_some {p a b : List UInt8} (h : unq (p.take (atL 61 p)) = some a) (h' : unq (p.drop (atL 61 p + 1)) = some b) : pairL p = some (a, b) := by
  unfold pairL; rw [h, h']
theorem pairL_key {p : List UInt8} (h : unq (p.take (atL 61 p)) = none) : pairL p = none := by
  unfold pairL; rw [h]
theorem pairL_val {p : List UInt8} (h' : unq (p.drop (atL 61 p + 1)) = none) : pairL p = none := by
  unfold pairL; rw [h']; cases unq (p.take (atL 61 p)) <;> rfl
abbrev PL := List (List UInt8 × List UInt8)
def pairsL : List (List UInt8) → Option PL
  | [] => some []
  | p :: r => match pairL p, pairsL r with
    | some x, some xs => some (x :: xs)
    | _, _ => none
theorem pairsL_cons (p : List UInt8) (r : List (List UInt8)) : pairsL (p :: r) = match pairL p, pairsL r with
    | some x, some xs => some (x :: xs)
    | _, _ => none := rfl
theorem pairsL_app_some {l : List (List UInt8)} {xs : PL} (h : pairsL l = some xs) (r : List (List UInt8)) : pairsL (l ++ r) = (pairsL r).map (xs ++ ·) := by
  induction l generalizing xs with
  | nil => simp [pairsL] at h; subst h; simp
  | cons p l ih =>
    rw [pairsL_cons] at h
    rw [List.cons_append, pairsL_cons]
    cases hp : pairL p with
    | none => rw [hp] at h; simp at h
    | some x =>
      cases hl : pairsL l with
      | none => rw [hp, hl] at h; simp at h
      | some ys =>
        rw [hp, hl] at h
        simp at h; subst h
        rw [ih hl]
        cases pairsL r <;> simp
theorem pairsL_app_none {l : List (List UInt8)} (h : pairsL l = none) (r : List (List UInt8)) : pairsL (l ++ r) = none := by
  induction l with
  | nil => simp [pairsL] at h
  | cons p l ih =>
    rw [pairsL_cons] at h
    rw [List.cons_append, pairsL_cons]
    cases hp : pairL p with
    | none => rfl
    | some x =>
      cases hl : pairsL l with
      | none => rw [ih hl]
      | some ys => rw [hp, hl] at h; simp at h
theorem pairsL_snoc {l : List (List UInt8)} {xs : PL} {p : List UInt8} {x : List UInt8 × List UInt8} (h : pairsL l = some xs) (hp : pairL p = some x) : pairsL (l ++ [p]) = some (xs ++ [x]) := by
  rw [pairsL_app_some h]; simp [pairsL, hp]
theorem pairsL_bad {l : List (List UInt8)} {p : List UInt8} (hp : pairL p = none) : pairsL (l ++ [p]) = none := by
  cases h : pairsL l with
  | none => exact pairsL_app_none h _
  | some xs => rw [pairsL_app_some h]; simp [pairsL, hp]
theorem pairsL_len {l : List (List UInt8)} {xs : PL} (h : pairsL l = some xs) : xs.length = l.length := by
  induction l generalizing xs with
  | nil => simp [pairsL] at h; subst h; rfl
  | cons p l ih =>
    rw [pairsL_cons] at h
    cases hp : pairL p with
    | none => rw [hp] at h; simp at h
    | some x =>
      cases hl : pairsL l with
      | none => rw [hp, hl] at h; simp at h
      | some ys => rw [hp, hl] at h; simp at h; subst h; simp [ih hl]

/-- what a form stands for -/
def formL (l : List UInt8) : Option PL := pairsL (partsL l)
theorem partsL_len (l : List UInt8) : (partsL l).length ≤ l.length + 1 := Nat.le_trans (List.length_filter_le _ _) (splitL_len 38 l)

/-! ## Build -/
def oneL (p : List UInt8 × List UInt8) : List UInt8 := quoteL p.1 ++ 61 :: quoteL p.2
def buildL : PL → List UInt8
  | [] => []
  | [p] => oneL p
  | p :: q :: r => oneL p ++ 38 :: buildL (q :: r)
theorem buildL_snoc (l : PL) (p : List UInt8 × List UInt8) (h : l ≠ []) : buildL (l ++ [p]) = buildL l ++ 38 :: oneL p := by
  induction l with
  | nil => exact absurd rfl h
  | cons q l ih =>
    cases l with
    | nil => simp [buildL]
    | cons q' l =>
      have := ih (by simp)
      simp only [List.cons_append] at this ⊢
      simp [buildL, this]
theorem oneL_len (p : List UInt8 × List UInt8) : (oneL p).length ≤ 3 * (p.1.length + p.2.length) + 1 := by
  have := quoteL_le p.1; have := quoteL_le p.2
  simp [oneL]; omega
theorem buildL_len (l : PL) (m : Nat) (h : ∀ p ∈ l, p.1.length + p.2.length ≤ m) : (buildL l).length ≤ l.length * (3 * m + 2) := by
  induction l with
  | nil => simp [buildL]
  | cons p l ih =>
    have h1 := h p (by simp)
    have h2 := ih (fun q hq => h q (by simp [hq]))
    have h3 := oneL_len p
    cases l with
    | nil => simp [buildL]; omega
    | cons q r =>
      simp only [buildL, List.length_append, List.length_cons] at h2 ⊢
      rw [Nat.add_mul]; omega

theorem hexU_not : ∀ n : Nat, n < 16 → hexU n ≠ 38 ∧ hexU n ≠ 61 := by decide
theorem plain_not2 : ∀ c : UInt8, plainB c = true → c ≠ 38 ∧ c ≠ 61 := by
  intro c h
  constructor <;> (rintro rfl; revert h; decide)
theorem quote1_not (c : UInt8) : ∀ x ∈ quote1 c, x ≠ 38 ∧ x ≠ 61 := by
  intro x hx
  have hc := c.toNat_lt
  unfold quote1 at hx
  split at hx
  · rename_i h; simp at hx; subst hx; exact plain_not2 x h
  · simp at hx
    rcases hx with rfl | rfl | rfl
    · decide
    · exact hexU_not _ (by omega)
    · exact hexU_not _ (by omega)
theorem quoteL_not (l : List UInt8) : (38 : UInt8) ∉ quoteL l ∧ (61 : UInt8) ∉ quoteL l := by
  unfold quoteL
  constructor
  · intro h; obtain ⟨c, _, hc⟩ := List.mem_flatMap.1 h; exact (quote1_not c _ hc).1 rfl
  · intro h; obtain ⟨c, _, hc⟩ := List.mem_flatMap.1 h; exact (quote1_not c _ hc).2 rfl
theorem oneL_amp (p : List UInt8 × List UInt8) : (38 : UInt8) ∉ oneL p := by
  have h1 := (quoteL_not p.1).1; have h2 := (quoteL_not p.2).1
  simp [oneL, h1, h2]
theorem oneL_ne (p : List UInt8 × List UInt8) : oneL p ≠ [] := by simp [oneL]
theorem pairL_oneL (p : List UInt8 × List UInt8) : pairL (oneL p) = some p := by
  have e : atL 61 (oneL p) = (quoteL p.1).length := by unfold oneL; rw [atL_app _ _ _ (quoteL_not p.1).2]; simp [atL]
  have h1 : (oneL p).take (atL 61 (oneL p)) = quoteL p.1 := by rw [e]; unfold oneL; simp
  have h2 : (oneL p).drop (atL 61 (oneL p) + 1) = quoteL p.2 := by
    rw [e]; unfold oneL
    rw [← List.drop_drop]; simp
  have := pairL_some (p := oneL p) (a := p.1) (b := p.2) (by rw [h1]; exact unq_quoteL _) (by rw [h2]; exact unq_quoteL _)
  exact this
theorem one1_oneL (p : List UInt8 × List UInt8) : one1 (oneL p) = [oneL p] := by unfold one1; rw [if_neg (oneL_ne p)]
theorem partsL_buildL (l : PL) : partsL (buildL l) = l.map oneL := by
  induction l with
  | nil => decide
  | cons p l ih =>
    cases l with
    | nil => simp only [buildL, List.map]; rw [partsL_one _ (oneL_amp p), one1_oneL]
    | cons q r =>
      simp only [buildL]
      rw [partsL_app _ _ (oneL_amp p), ih, one1_oneL]; simp
theorem pairsL_oneL (l : PL) : pairsL (l.map oneL) = some l := by
  induction l with
  | nil => rfl
  | cons p l ih => simp [pairsL, pairL_oneL, ih]
theorem formL_buildL (l : PL) : formL (buildL l) = some l := by unfold formL; rw [partsL_buildL, pairsL_oneL]

/-! ## Get, Twice -/
def getL (l : PL) (k : List UInt8) : Option (List UInt8) := (l.find? (fun p => p.1 == k)).map (·.2)
def twiceL : PL → Bool
  | [] => false
  | p :: r => (r.map (·.1)).contains p.1 || twiceL r
end Go.Proofs.YtcbajbpdgmmaeaaDoor
namespace Go.Proofs.YtcbajbpdgmmaeaaDoor
open Go.RowKit


theorem ret_int {k : IntKind} {a b : Int} (h : a = b) : Ending.returned (.int k a) = .returned (.int k b) := by rw [h]
theorem ret_bool {a b : Bool} (h : a = b) : Ending.returned (.bool a) = .returned (.bool b) := by rw [h]

theorem ret_tup {k : IntKind} {a b : Int} {x y : Bool} (h : a = b) (h' : x = y) : Ending.returned (.tuple #[.int k a, .bool x]) = .returned (.tuple #[.int k b, .bool y]) := by rw [h, h']

theorem int_eq {k : IntKind} {a b : Int} (h : a = b) : Value.int k a = .int k b := by rw [h]
theorem ret_sb {x : ByteArray} {a b : Bool} (h : a = b) : Ending.returned (.tuple #[.string x, .bool a]) = .returned (.tuple #[.string x, .bool b]) := by rw [h]
theorem byte_of_wf {x : Int} (h : (Lit.int .u8 x).wf = true) : 0 ≤ x ∧ x < 256 := by
  simp [Lit.wf, IntKind.min, IntKind.max, IntKind.signed, IntKind.bits] at h
  exact ⟨by omega, by omega⟩
theorem byte_ex {x : Int} (h : (Lit.int .u8 x).wf = true) : ∃ c : UInt8, x = (c.toNat : Int) := by
  have := byte_of_wf h
  exact ⟨UInt8.ofNat x.toNat, by rw [UInt8.toNat_ofNat']; omega⟩

theorem str_eq {a b : ByteArray} (h : a = b) : Value.string a = .string b := by rw [h]


theorem _root_.Go.RowKit.Below.chain {a b c : World} (h : Below a.heap.size a b) (h' : Below b.heap.size b c) : Below a.heap.size a c := h.trans (h'.mono h.size)


theorem belowDrewN {B : Nat} {a w : World} (h : Below B a w) (n : Nat) : Below B a (w.drewN n) := ⟨h.os, h.tape, h.output, h.size, h.block⟩
theorem run_slice_string_lh {P : Program} (w : World) (t : TypeId) (s : ByteArray) (ht : P.underlying t = some .string) (kl kh : IntKind) (l h : Int) (h0 : 0 ≤ l) (h1 : l ≤ h) (h2 : h ≤ s.size) :
    (Instr.slice t (.string s) (some (.int kl l)) (some (.int kh h)) none).run P w = .ok (.string (s.extract l.toNat h.toNat)) w := by
  have eh : (h.toNat : Int) = h := Int.toNat_of_nonneg (by omega)
  simp [Instr.slice, run_underlying ht, Instr.sliceBounds, run_sliceBound, *, (by omega : 0 ≤ h)]
theorem below_drew2 (w w2 : World) (h : Below w.drew.heap.size w.drew w2) : Below w.heap.size w w2 := by
  have e : w.drew.heap.size = w.heap.size := rfl
  rw [e] at h; exact ((Below.refl w.heap.size w).drew).trans h
theorem wraps_i64 (n : Int) (h₀ : 0 ≤ n) (h₁ : n < 2 ^ 63) : IntKind.i64.wrap n = n := by rw [IntKind.wrap_i64]; omega
theorem bits_xor_nat (k : IntKind) (j : Nat) (hj : j ≤ k.bits) (hk : ∀ n : Int, 0 ≤ n → n < 2 ^ j → k.wrap n = n) (a b : Nat) (ha : a < 2 ^ j) (hb : b < 2 ^ j) :
    bits .xor k a b = ((a ^^^ b : Nat) : Int) := by
  have hp : 2 ^ j ≤ 2 ^ k.bits := Nat.pow_le_pow_right (by decide) hj
  have ha' : a % 2 ^ k.bits = a := Nat.mod_eq_of_lt (Nat.lt_of_lt_of_le ha hp)
  have hb' : b % 2 ^ k.bits = b := Nat.mod_eq_of_lt (Nat.lt_of_lt_of_le hb hp)
  simp only [bits, BitVec.ofInt_natCast, BitVec.toNat_xor, BitVec.toNat_ofNat, ha', hb']
  exact hk _ (Int.natCast_nonneg _) (by exact_mod_cast Nat.xor_lt_two_pow ha hb)

theorem xor_zero_iff (a b : Nat) : a ^^^ b = 0 ↔ a = b := by
  constructor
  · intro h
    refine Nat.eq_of_testBit_eq fun i => ?_
    have := congrArg (fun n => n.testBit i) h
    simp only [Nat.testBit_xor, Nat.zero_testBit] at this
    revert this; cases a.testBit i <;> cases b.testBit i <;> simp
  · rintro rfl; exact Nat.xor_self a

theorem ext_size (s : ByteArray) (k : Nat) : (s.extract k s.size).size = s.size - k := by simp [ByteArray.size_extract]
theorem ext_get (s : ByteArray) (k i : Nat) (h : i < (s.extract k s.size).size) (h' : k + i < s.size) : (s.extract k s.size)[i] = s[k + i] := by simp [ByteArray.getElem_extract]
theorem take_snoc (s : ByteArray) (k : Nat) (h : k < s.size) : s.data.toList.take (k + 1) = s.data.toList.take k ++ [s[k]] := by
  rw [List.take_succ_eq_append_getElem (by simpa using h)]; rfl

theorem ret_str {a b : List UInt8} (h : a = b) : Ending.returned (.string ⟨a.toArray⟩) = .returned (.string ⟨b.toArray⟩) := by rw [h]
theorem take_all (s : ByteArray) : s.data.toList.take s.size = s.data.toList := List.take_of_length_le (Nat.le_refl _)
theorem app_list (a : List UInt8) (c : UInt8) : (ByteArray.mk a.toArray ++ ByteArray.mk #[c]).data.toList = a ++ [c] := by simp [ByteArray.data_append]
theorem app_size (a : List UInt8) (c : UInt8) (h : a.length ≤ 1000) : (ByteArray.mk a.toArray ++ ByteArray.mk #[c]).size ≤ 46912496117759 := by
  have : (ByteArray.mk a.toArray ++ ByteArray.mk #[c]).size = (ByteArray.mk a.toArray ++ ByteArray.mk #[c]).data.toList.length := rfl
  rw [this, app_list, List.length_append]; simp; omega
theorem and_mask (x : Int) (h0 : 0 ≤ x) (h1 : x < 4294967296) (i : Nat) (hi : i ≤ 32) : bits .and .u32 x (2 ^ i - 1) = x % 2 ^ i :=
  bits_mask .u32 32 (by decide) (fun n h0 h1 => by rw [IntKind.wrap_u32]; omega) i hi x h0 h1


theorem Tryd.infoByte : (Tryd.prog.info? 5).map (fun i => (i.zero, i.size, i.bytes)) = some (some (.int .u8 0), 1, 1) := by kernel_rfl

def cells (l : List UInt8) : List Value := l.map fun c => Value.int .u8 (c.toNat : Int)
theorem cells_app (a b : List UInt8) : cells (a ++ b) = cells a ++ cells b := by simp [cells]
theorem cells_one (l : List UInt8) : ∀ u ∈ cells l, u.oneCell' = true := by
  intro u hu; obtain ⟨_, _, rfl⟩ := List.mem_map.1 hu; rfl
theorem new_cells (w : World) (cs : Array Value) (e : TypeId) : ∀ j u, cs.toList[j]? = some u → (w.alloc (.cells cs e)).cell? ((⟨w.heap.size, 0, none⟩ : Addr).add j) = some u := by
  intro j u h
  rw [Addr.add_lit, Nat.zero_add, World.cell?_alloc_mark]
  simpa using h

/-- append onto a row of the call's own, as one step of a region that draws its order -/
theorem step_append_own {P : Program} {w : World} {ops : Array Oper} {o : Oper} {a : Act} {K : Act → World → Prop} {Q : Exit → Act → World → Prop} {E : Prop} (hgd : o.guard = none) (s x : Operand) (t : TypeId)
    (ho : o.op = .call { callee := .builtin .append, args := #[s, x], argTypes := #[t, t] })
    (base : Nat) (e : TypeId) (i : TypeInfo) (z : Value) (size bytes : Nat) (ht : P.underlying t = some (.slice e)) (hi : P.info? e = some i) (hz : i.zero = some z)
    (hsize : i.size = size) (hby : i.bytes = bytes) (hzs : z.cells.size = size) (hsz : 0 < size)
    (v : Value) (n : Nat) (xs : List Value) (hs : a.eval s = v) (hown : w.ownsRow base e size v n xs)
    (ad : Addr) (m c : Nat) (news : List Value) (hx : a.eval x = .slice (some ad) m c) (hl : news.length = m * size) (hnews : ∀ j u, news[j]? = some u → w.cell? (ad.add j) = some u) (h1 : ∀ u ∈ news, u.oneCell' = true)
    (h63 : n + m ≤ maxLen) (hbytes : (n + m) * bytes ≤ 140737488355328) (hbase : base ≤ w.heap.size)
    (h : ∀ v' w', w'.ownsRow base e size v' (n + m) (xs ++ news) → w.grownBy w' v.ownBlock → (v' = .slice none 0 0 ↔ v = .slice none 0 0 ∧ m = 0) → K (a.put o.dst v') w') :
    if Region.wanted o (yielded ops a.tmps) = true then Oper.wp P o a w K Q else E := by
  have hw : Region.wanted o (yielded ops a.tmps) = true := by simp [Region.wanted, hgd]
  rw [if_pos hw]
  exact wp_append_own w s x t ho base e i z size bytes ht hi hz hsize hby hzs hsz v n xs hs hown ad m c news hx hl hnews h1 h63 hbytes hbase h

theorem one_cell (x : Int) : ∀ u ∈ [Value.int .u8 x], u.oneCell' = true := by intro u hu; simp at hu; subst hu; rfl
theorem three_cells (x y z : Int) : ∀ u ∈ [Value.int .u8 x, Value.int .u8 y, Value.int .u8 z], u.oneCell' = true := by
  intro u hu; simp at hu; rcases hu with rfl | rfl | rfl <;> rfl

/-- a buffer of bytes of the call's own -/
def Buf (w : World) (B : Nat) (v : Value) (l : List UInt8) : Prop := w.ownsRow B 5 1 v l.length (cells l)
theorem Buf.cut {w : World} {B : Nat} {v : Value} {n : Nat} {l : List UInt8} {xs : List Value} (h : w.ownsRow B 5 1 v n xs) (hn : n = l.length) (hx : xs = cells l) : Buf w B v l := by subst hn; subst hx; exact h

/-- 'string(buf)' -/
theorem Buf.text {w : World} {B : Nat} {v : Value} {l : List UInt8} (h : Buf w B v l) : (convert 79 9 v).run Tryd.prog w = .ok (.string ⟨l.toArray⟩) w := by
  rcases h.2 with ⟨rfl, h0⟩ | ⟨g, cap, cur, rfl, -, -, -, -, -, -⟩
  · obtain rfl : l = [] := List.length_eq_zero_iff.1 h0
    rw [run_convert_bytes_string (P := Tryd.prog) w 79 9 5 none 0 0 Tryd.underlying79 Tryd.underlying5 Tryd.underlying9]
    rfl
  · refine run_convert_bytes_back (P := Tryd.prog) w 79 9 5 ⟨g, 0, none⟩ cap l Tryd.underlying79 Tryd.underlying5 Tryd.underlying9 (fun j hj => ?_)
    exact World.ownsRow.cells h (g := g) rfl j _ (by simp [cells, hj])

theorem new_cells_take (w : World) (cs : Array Value) (e : TypeId) (m : Nat) : ∀ j u, (cs.toList.take m)[j]? = some u → (w.alloc (.cells cs e)).cell? ((⟨w.heap.size, 0, none⟩ : Addr).add j) = some u := by
  intro j u h
  rw [List.getElem?_take] at h
  split at h
  · exact new_cells w cs e j u h
  · cases h

theorem two_cells (x y : Int) : ∀ u ∈ [Value.int .u8 x, Value.int .u8 y], u.oneCell' = true := by
  intro u hu; simp at hu; rcases hu with rfl | rfl <;> rfl
theorem four_cells (x y z t : Int) : ∀ u ∈ [Value.int .u8 x, Value.int .u8 y, Value.int .u8 z, Value.int .u8 t], u.oneCell' = true := by
  intro u hu; simp at hu; rcases hu with rfl | rfl | rfl | rfl <;> rfl

theorem Buf.below {w w' : World} {B : Nat} {v : Value} {l : List UInt8} (h : Buf w B v l) (hb : Below w.heap.size w w') : Buf w' B v l :=
  World.ownsRow.kept (row := none) h ⟨hb.os, hb.tape, hb.output, hb.size, fun k hk _ => hb.block k hk⟩ (by
    rcases h.2 with ⟨rfl, _⟩ | ⟨g, cap, cur, rfl, _⟩
    · exact .inl rfl
    · exact .inr (by simp [Value.ownBlock]))


theorem conv_new (w : World) (l : List UInt8) (cs : Array Value) (n c : Nat) (hn : n = l.length) (h : cs.toList = cells l) :
    (convert 79 9 (.slice (some ⟨w.heap.size, 0, none⟩) n c)).run Tryd.prog (w.alloc (.cells cs 5)) = .ok (.string ⟨l.toArray⟩) (w.alloc (.cells cs 5)) := by
  subst hn
  refine run_convert_bytes_back (P := Tryd.prog) _ 79 9 5 ⟨w.heap.size, 0, none⟩ c l Tryd.underlying79 Tryd.underlying5 Tryd.underlying9 (fun j hj => ?_)
  exact new_cells w cs 5 j _ (by rw [h]; simp [cells, hj])

theorem conv_newD (w : World) (l : List UInt8) (cs : Array Value) (n c : Nat) (hn : n = l.length) (h : cs.toList = cells l) :
    (convert 79 9 (.slice (some ⟨w.heap.size, 0, none⟩) n c)).run Tryd.prog (w.alloc (.cells cs 5)).drew = .ok (.string ⟨l.toArray⟩) (w.alloc (.cells cs 5)).drew := by
  subst hn
  refine run_convert_bytes_back (P := Tryd.prog) _ 79 9 5 ⟨w.heap.size, 0, none⟩ c l Tryd.underlying79 Tryd.underlying5 Tryd.underlying9 (fun j hj => ?_)
  exact new_cells w cs 5 j _ (by rw [h]; simp [cells, hj])

theorem cells_byte (l : List UInt8) (n m : Nat) (x : Int) (hx : x = (n : Int) % 256) (hn : n % 256 = m % 256) : cells l ++ [Value.int .u8 x] = cells (l ++ [UInt8.ofNat m]) := by
  subst hx
  rw [cells_app]
  have : (UInt8.ofNat m).toNat = m % 256 := UInt8.toNat_ofNat'
  show _ = cells l ++ [Value.int .u8 ((UInt8.ofNat m).toNat : Int)]
  rw [this, ← hn]; rfl

theorem hex_cells (c : UInt8) (a b : Int) (ha : a = (c.toNat : Int) / 16) (hb : b = (c.toNat : Int) % 16) (h1 : a.toNat < hexBytes.size) (h2 : b.toNat < hexBytes.size) :
    [Value.int .u8 37, .int .u8 (hexBytes[a.toNat].toNat : Int), .int .u8 (hexBytes[b.toNat].toNat : Int)] = cells [37, hexU (c.toNat / 16), hexU (c.toNat % 16)] := by
  rw [hexU_at h1, hexU_at h2]
  have e1 : a.toNat = c.toNat / 16 := by omega
  have e2 : b.toNat = c.toNat % 16 := by omega
  rw [e1, e2]; rfl
end Go.Proofs.YtcbajbpdgmmaeaaDoor
