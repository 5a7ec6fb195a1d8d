/- Texts merged by program, in build order: B64, Form, Base, Sha, Turn, Arr. -/
import Derived.Lib.Bytealg
import Derived.Test.YtdiljjoaihfloaaDoorRows
import Derived.WalkKit
import Derived.WalkLawsBesides
import Derived.Lib.Hide
import Derived.Lib.Slices
import Derived.Outline
import Derived.BigQuiet
import Derived.Deep.QuietTactic
import Derived.Deep.RegionHeld3
import Derived.Laws.IdiomStrings
import Derived.LoopN
import Derived.Laws.Tables
import Derived.Deep.WholeRow
import Derived.Deep.Draws
import Derived.Deep.MidRow
namespace Go.Proofs.YtdiljjoaihfloaaDoor

def ltrs : Array UInt8 := #[65, 66, 67, 68, 69, 70, 71, 72, 73, 74, 75, 76, 77, 78, 79, 80, 81, 82, 83, 84, 85, 86, 87, 88, 89, 90, 97, 98, 99, 100, 101, 102, 103, 104, 105, 106, 107, 108, 109, 110, 111, 112, 113, 114, 115, 116, 117, 118, 119, 120, 121, 122, 48, 49, 50, 51, 52, 53, 54, 55, 56, 57, 45, 95]
def ltr (n : Nat) : UInt8 := ltrs.getD n 0
theorem ltr_at {n : Nat} (h : n < (ByteArray.mk ltrs).size) : (ByteArray.mk ltrs)[n] = ltr n := by
  have h' : n < ltrs.size := h
  simp [ltr, h']; rfl

/-- the letter's number; -1: none -/
def ix (c : UInt8) : Int := Lib.indexByte ltrs.toList c

theorem ix_all : ∀ n : Nat, n < 256 → (ix (UInt8.ofNat n) = -1 ∨ (0 ≤ ix (UInt8.ofNat n) ∧ ix (UInt8.ofNat n) < 64 ∧ ltr (ix (UInt8.ofNat n)).toNat = UInt8.ofNat n)) := by decide +kernel
theorem ix_cases (c : UInt8) : ix c = -1 ∨ (0 ≤ ix c ∧ ix c < 64 ∧ ltr (ix c).toNat = c) := by
  have := ix_all c.toNat c.toNat_lt
  rwa [UInt8.ofNat_toNat] at this
theorem ix_ltr : ∀ n : Nat, n < 64 → ix (ltr n) = n := by decide +kernel
theorem ltr_inj {a b : Nat} (ha : a < 64) (hb : b < 64) (h : ltr a = ltr b) : a = b := by
  have h1 := ix_ltr a ha
  have h2 := ix_ltr b hb
  rw [h, h2] at h1; omega

/-- the last of the first k letters that is c -/
def ixTo (c : UInt8) : Nat → Int
  | 0 => -1
  | k + 1 => if (ltr k).toNat = c.toNat then k else ixTo c k
theorem ixTo_all : ∀ n : Nat, n < 256 → ixTo (UInt8.ofNat n) 64 = ix (UInt8.ofNat n) := by decide +kernel
theorem ixTo_ix (c : UInt8) : ixTo c 64 = ix c := by
  have := ixTo_all c.toNat c.toNat_lt
  rwa [UInt8.ofNat_toNat] at this

def chunk (v : Nat) : List UInt8 := [ltr (v / 262144), ltr (v / 4096 % 64), ltr (v / 64 % 64), ltr (v % 64)]
/-- base64url -/
def enc : List UInt8 → List UInt8
  | [] => []
  | [a] => (chunk (a.toNat * 65536)).take 2
  | [a, b] => (chunk (a.toNat * 65536 + b.toNat * 256)).take 3
  | a :: b :: c :: r => chunk (a.toNat * 65536 + b.toNat * 256 + c.toNat) ++ enc r

theorem enc_len : ∀ l : List UInt8, (enc l).length = (4 * l.length + 2) / 3
  | [] => rfl
  | [a] => by simp [enc, chunk]
  | [a, b] => by simp [enc, chunk]
  | a :: b :: c :: r => by
    have := enc_len r
    simp [enc, chunk]; omega

/-! ## the program's way: bit by bit, in a word of 32 bits -/
def push8 (H : Nat) (b : UInt8) : Nat := H * 256 % 4294967296 + b.toNat
def encS : Nat → Nat → List UInt8 → List UInt8
  | H, bits, [] => if bits = 0 then [] else if bits = 2 then [ltr (H * 16 % 4294967296 % 64)] else [ltr (H * 4 % 4294967296 % 64)]
  | H, bits, b :: r => if bits = 0 then ltr (push8 H b / 4 % 64) :: encS (push8 H b) 2 r else if bits = 2 then ltr (push8 H b / 16 % 64) :: encS (push8 H b) 4 r
    else ltr (push8 H b / 64 % 64) :: ltr (push8 H b % 64) :: encS (push8 H b) 0 r

theorem cons_ltr {a b : Nat} {r r' : List UInt8} (h : a = b) (h' : r = r') : ltr a :: r = ltr b :: r' := by rw [h, h']

theorem encS_0 (H : Nat) (b : UInt8) (r : List UInt8) : encS H 0 (b :: r) = ltr (push8 H b / 4 % 64) :: encS (push8 H b) 2 r := rfl
theorem encS_2 (H : Nat) (b : UInt8) (r : List UInt8) : encS H 2 (b :: r) = ltr (push8 H b / 16 % 64) :: encS (push8 H b) 4 r := rfl
theorem encS_4 (H : Nat) (b : UInt8) (r : List UInt8) : encS H 4 (b :: r) = ltr (push8 H b / 64 % 64) :: ltr (push8 H b % 64) :: encS (push8 H b) 0 r := rfl
theorem encS_end2 (H : Nat) : encS H 2 [] = [ltr (H * 16 % 4294967296 % 64)] := rfl
theorem encS_end4 (H : Nat) : encS H 4 [] = [ltr (H * 4 % 4294967296 % 64)] := rfl

theorem encS_enc : ∀ (l : List UInt8) (H : Nat), encS H 0 l = enc l
  | [], H => rfl
  | [a], H => by
    have ha := a.toNat_lt
    rw [encS_0, encS_end2]
    show _ = [ltr (a.toNat * 65536 / 262144), ltr (a.toNat * 65536 / 4096 % 64)]
    unfold push8
    exact cons_ltr (by omega) (cons_ltr (by omega) rfl)
  | [a, b], H => by
    have ha := a.toNat_lt
    have hb := b.toNat_lt
    rw [encS_0, encS_2, encS_end4]
    show _ = [ltr ((a.toNat * 65536 + b.toNat * 256) / 262144), ltr ((a.toNat * 65536 + b.toNat * 256) / 4096 % 64), ltr ((a.toNat * 65536 + b.toNat * 256) / 64 % 64)]
    unfold push8
    exact cons_ltr (by omega) (cons_ltr (by omega) (cons_ltr (by omega) rfl))
  | a :: b :: c :: r, H => by
    have ha := a.toNat_lt
    have hb := b.toNat_lt
    have hc := c.toNat_lt
    rw [encS_0, encS_2, encS_4, encS_enc r]
    show _ = ltr ((a.toNat * 65536 + b.toNat * 256 + c.toNat) / 262144) :: ltr ((a.toNat * 65536 + b.toNat * 256 + c.toNat) / 4096 % 64) :: ltr ((a.toNat * 65536 + b.toNat * 256 + c.toNat) / 64 % 64) :: ltr ((a.toNat * 65536 + b.toNat * 256 + c.toNat) % 64) :: enc r
    unfold push8
    exact cons_ltr (by omega) (cons_ltr (by omega) (cons_ltr (by omega) (cons_ltr (by omega) rfl)))

/-! ## reading -/
def push6 (H : Nat) (d : Nat) : Nat := H * 64 % 4294967296 + d
/-- the program's way -/
def decS : Nat → Nat → List UInt8 → Option (List UInt8)
  | H, bits, [] => if bits < 6 ∧ H % 2 ^ bits = 0 then some [] else none
  | H, bits, c :: r => if ix c < 0 then none else
    if bits < 2 then decS (push6 H (ix c).toNat) (bits + 6) r
    else (decS (push6 H (ix c).toNat) (bits - 2) r).map (UInt8.ofNat (push6 H (ix c).toNat / 2 ^ (bits - 2)) :: ·)
/-- the reference's way -/
def unS : Nat → Nat → List UInt8 → Option (List UInt8)
  | _, _, [] => some []
  | v, n, c :: r => if ix c < 0 then none else
    if n < 2 then unS (v * 64 + (ix c).toNat) (n + 6) r
    else (unS ((v * 64 + (ix c).toNat) % 2 ^ (n - 2)) (n - 2) r).map (UInt8.ofNat ((v * 64 + (ix c).toNat) / 2 ^ (n - 2)) :: ·)
/-- what a text is of -/
def dec (l : List UInt8) : Option (List UInt8) := (unS 0 0 l).bind fun o => if enc o = l then some o else none

/-- a text of letters is its numbers' -/
def ds (l : List Nat) : List UInt8 := l.map ltr
theorem letters (l : List UInt8) : (∃ l' : List Nat, l = ds l' ∧ ∀ d ∈ l', d < 64) ∨ ∃ p c r, l = ds p ++ c :: r ∧ (∀ d ∈ p, d < 64) ∧ ix c = -1 := by
  induction l with
  | nil => exact .inl ⟨[], rfl, by simp⟩
  | cons c l ih =>
    rcases ix_cases c with h | ⟨h0, h1, h2⟩
    · exact .inr ⟨[], c, l, rfl, by simp, h⟩
    · rcases ih with ⟨l', e, hl⟩ | ⟨p, c', r, e, hp, hc⟩
      · exact .inl ⟨(ix c).toNat :: l', by rw [e]; simp [ds, h2], by intro d hd; rcases List.mem_cons.1 hd with rfl | hd; omega; exact hl d hd⟩
      · exact .inr ⟨(ix c).toNat :: p, c', r, by rw [e]; simp [ds, h2], by intro d hd; rcases List.mem_cons.1 hd with rfl | hd; omega; exact hp d hd, hc⟩

theorem unS_none (p : List Nat) (c : UInt8) (r : List UInt8) (hp : ∀ d ∈ p, d < 64) (hc : ix c = -1) : ∀ v n, unS v n (ds p ++ c :: r) = none := by
  induction p with
  | nil => intro v n; show unS v n (c :: r) = none; rw [unS, if_pos (by omega)]
  | cons d p ih =>
    intro v n
    have ih' := ih fun d hd => hp d (List.mem_cons_of_mem _ hd)
    show unS v n (ltr d :: (ds p ++ c :: r)) = none
    rw [unS, ih', ih']; simp
theorem decS_none (p : List Nat) (c : UInt8) (r : List UInt8) (hp : ∀ d ∈ p, d < 64) (hc : ix c = -1) : ∀ v n, decS v n (ds p ++ c :: r) = none := by
  induction p with
  | nil => intro v n; show decS v n (c :: r) = none; rw [decS, if_pos (by omega)]
  | cons d p ih =>
    intro v n
    have ih' := ih fun d hd => hp d (List.mem_cons_of_mem _ hd)
    show decS v n (ltr d :: (ds p ++ c :: r)) = none
    rw [decS, ih', ih']; simp

theorem decS_ltr (H bits d : Nat) (hd : d < 64) (r : List UInt8) : decS H bits (ltr d :: r) = if bits < 2 then decS (push6 H d) (bits + 6) r else (decS (push6 H d) (bits - 2) r).map (UInt8.ofNat (push6 H d / 2 ^ (bits - 2)) :: ·) := by
  rw [decS, ix_ltr d hd, if_neg (by omega)]; rfl
theorem unS_ltr (v n d : Nat) (hd : d < 64) (r : List UInt8) : unS v n (ltr d :: r) = if n < 2 then unS (v * 64 + d) (n + 6) r else (unS ((v * 64 + d) % 2 ^ (n - 2)) (n - 2) r).map (UInt8.ofNat ((v * 64 + d) / 2 ^ (n - 2)) :: ·) := by
  rw [unS, ix_ltr d hd, if_neg (by omega)]; rfl
theorem byte_eq {a b : Nat} (h : a % 256 = b % 256) : UInt8.ofNat a = UInt8.ofNat b := by
  apply UInt8.toNat_inj.1; rw [UInt8.toNat_ofNat', UInt8.toNat_ofNat']; exact h

theorem toNat_byte (a : Nat) : (UInt8.ofNat a).toNat = a % 256 := UInt8.toNat_ofNat'

theorem dec_ds : ∀ (l : List Nat), (∀ d ∈ l, d < 64) → ∀ H, decS H 0 (ds l) = dec (ds l)
  | [], _, H => by simp [ds, decS, dec, unS, enc]; omega
  | [a], h, H => by
    have ha := h a (by simp)
    show decS H 0 [ltr a] = dec [ltr a]
    rw [decS_ltr _ _ _ ha, dec, unS_ltr _ _ _ ha]
    simp [decS, unS, enc]
  | [a, b], h, H => by
    have ha := h a (by simp)
    have hb := h b (by simp)
    show decS H 0 [ltr a, ltr b] = dec [ltr a, ltr b]
    have e1 : decS H 0 [ltr a, ltr b] = if b % 16 = 0 then some [UInt8.ofNat ((a * 64 + b) / 16)] else none := by
      rw [decS_ltr _ _ _ ha, if_pos (by decide), decS_ltr _ _ _ hb, if_neg (by decide), decS]
      have : push6 (push6 H a) b % 2 ^ (0 + 6 - 2) = b % 16 := by unfold push6; omega
      rw [this]
      have hy : UInt8.ofNat (push6 (push6 H a) b / 2 ^ (0 + 6 - 2)) = UInt8.ofNat ((a * 64 + b) / 16) := byte_eq (by unfold push6; omega)
      rw [hy]
      by_cases hz : b % 16 = 0 <;> simp [hz]
    have e2 : unS 0 0 [ltr a, ltr b] = some [UInt8.ofNat ((a * 64 + b) / 16)] := by
      rw [unS_ltr _ _ _ ha, if_pos (by decide), unS_ltr _ _ _ hb, if_neg (by decide), unS]; simp
    rw [e1, dec, e2, Option.bind_some]
    have e3 : enc [UInt8.ofNat ((a * 64 + b) / 16)] = [ltr a, ltr (b / 16 * 16)] := by
      show [ltr ((UInt8.ofNat ((a * 64 + b) / 16)).toNat * 65536 / 262144), ltr ((UInt8.ofNat ((a * 64 + b) / 16)).toNat * 65536 / 4096 % 64)] = _
      rw [toNat_byte]
      exact cons_ltr (by omega) (cons_ltr (by omega) rfl)
    rw [e3]
    by_cases hz : b % 16 = 0
    · rw [if_pos hz, if_pos (cons_ltr rfl (cons_ltr (by omega) rfl))]
    · rw [if_neg hz, if_neg]
      intro he; injection he with _ he; injection he with he _
      have := ltr_inj (by omega) hb he; omega
  | [a, b, c], h, H => by
    have ha := h a (by simp)
    have hb := h b (by simp)
    have hc := h c (by simp)
    show decS H 0 [ltr a, ltr b, ltr c] = dec [ltr a, ltr b, ltr c]
    have e1 : decS H 0 [ltr a, ltr b, ltr c] = if c % 4 = 0 then some [UInt8.ofNat ((a * 64 + b) / 16), UInt8.ofNat ((b * 64 + c) / 4)] else none := by
      rw [decS_ltr _ _ _ ha, if_pos (by decide), decS_ltr _ _ _ hb, if_neg (by decide), decS_ltr _ _ _ hc, if_neg (by decide), decS]
      have : push6 (push6 (push6 H a) b) c % 2 ^ (0 + 6 - 2 - 2) = c % 4 := by unfold push6; omega
      rw [this]
      have hy : UInt8.ofNat (push6 (push6 H a) b / 2 ^ (0 + 6 - 2)) = UInt8.ofNat ((a * 64 + b) / 16) := byte_eq (by unfold push6; omega)
      have hy' : UInt8.ofNat (push6 (push6 (push6 H a) b) c / 2 ^ (0 + 6 - 2 - 2)) = UInt8.ofNat ((b * 64 + c) / 4) := byte_eq (by unfold push6; omega)
      rw [hy, hy']
      by_cases hz : c % 4 = 0 <;> simp [hz]
    have e2 : unS 0 0 [ltr a, ltr b, ltr c] = some [UInt8.ofNat ((a * 64 + b) / 16), UInt8.ofNat ((b * 64 + c) / 4)] := by
      rw [unS_ltr _ _ _ ha, if_pos (by decide), unS_ltr _ _ _ hb, if_neg (by decide), unS_ltr _ _ _ hc, if_neg (by decide), unS]
      have hy : UInt8.ofNat (((0 * 64 + a) * 64 + b) / 2 ^ (0 + 6 - 2)) = UInt8.ofNat ((a * 64 + b) / 16) := byte_eq (by omega)
      have hy' : UInt8.ofNat ((((0 * 64 + a) * 64 + b) % 2 ^ (0 + 6 - 2) * 64 + c) / 2 ^ (0 + 6 - 2 - 2)) = UInt8.ofNat ((b * 64 + c) / 4) := byte_eq (by omega)
      rw [hy, hy']; rfl
    rw [e1, dec, e2, Option.bind_some]
    have e3 : enc [UInt8.ofNat ((a * 64 + b) / 16), UInt8.ofNat ((b * 64 + c) / 4)] = [ltr a, ltr b, ltr (c / 4 * 4)] := by
      show [ltr (((UInt8.ofNat ((a * 64 + b) / 16)).toNat * 65536 + (UInt8.ofNat ((b * 64 + c) / 4)).toNat * 256) / 262144), ltr (((UInt8.ofNat ((a * 64 + b) / 16)).toNat * 65536 + (UInt8.ofNat ((b * 64 + c) / 4)).toNat * 256) / 4096 % 64), ltr (((UInt8.ofNat ((a * 64 + b) / 16)).toNat * 65536 + (UInt8.ofNat ((b * 64 + c) / 4)).toNat * 256) / 64 % 64)] = _
      rw [toNat_byte, toNat_byte]
      exact cons_ltr (by omega) (cons_ltr (by omega) (cons_ltr (by omega) rfl))
    rw [e3]
    by_cases hz : c % 4 = 0
    · rw [if_pos hz, if_pos (cons_ltr rfl (cons_ltr rfl (cons_ltr (by omega) rfl)))]
    · rw [if_neg hz, if_neg]
      intro he; injection he with _ he; injection he with _ he; injection he with he _
      have := ltr_inj (by omega) hc he; omega
  | a :: b :: c :: d :: r, h, H => by
    have ha := h a (by simp)
    have hb := h b (by simp)
    have hc := h c (by simp)
    have hd := h d (by simp)
    have ih := dec_ds r (fun x hx => h x (by simp [hx]))
    show decS H 0 (ltr a :: ltr b :: ltr c :: ltr d :: ds r) = dec (ltr a :: ltr b :: ltr c :: ltr d :: ds r)
    have e1 : decS H 0 (ltr a :: ltr b :: ltr c :: ltr d :: ds r) = (dec (ds r)).map ([UInt8.ofNat ((a * 64 + b) / 16), UInt8.ofNat ((b * 64 + c) / 4), UInt8.ofNat (c * 64 + d)] ++ ·) := by
      rw [decS_ltr _ _ _ ha, if_pos (by decide), decS_ltr _ _ _ hb, if_neg (by decide), decS_ltr _ _ _ hc, if_neg (by decide), decS_ltr _ _ _ hd, if_neg (by decide)]
      have hy : UInt8.ofNat (push6 (push6 H a) b / 2 ^ (0 + 6 - 2)) = UInt8.ofNat ((a * 64 + b) / 16) := byte_eq (by unfold push6; omega)
      have hy' : UInt8.ofNat (push6 (push6 (push6 H a) b) c / 2 ^ (0 + 6 - 2 - 2)) = UInt8.ofNat ((b * 64 + c) / 4) := byte_eq (by unfold push6; omega)
      have hy'' : UInt8.ofNat (push6 (push6 (push6 (push6 H a) b) c) d / 2 ^ (0 + 6 - 2 - 2 - 2)) = UInt8.ofNat (c * 64 + d) := byte_eq (by unfold push6; omega)
      rw [hy, hy', hy'', show (0 + 6 - 2 - 2 - 2 : Nat) = 0 from rfl, ih, Option.map_map, Option.map_map]; rfl
    have e2 : unS 0 0 (ltr a :: ltr b :: ltr c :: ltr d :: ds r) = (unS 0 0 (ds r)).map ([UInt8.ofNat ((a * 64 + b) / 16), UInt8.ofNat ((b * 64 + c) / 4), UInt8.ofNat (c * 64 + d)] ++ ·) := by
      rw [unS_ltr _ _ _ ha, if_pos (by decide), unS_ltr _ _ _ hb, if_neg (by decide), unS_ltr _ _ _ hc, if_neg (by decide), unS_ltr _ _ _ hd, if_neg (by decide)]
      have hy : UInt8.ofNat (((0 * 64 + a) * 64 + b) / 2 ^ (0 + 6 - 2)) = UInt8.ofNat ((a * 64 + b) / 16) := byte_eq (by omega)
      have hy' : UInt8.ofNat ((((0 * 64 + a) * 64 + b) % 2 ^ (0 + 6 - 2) * 64 + c) / 2 ^ (0 + 6 - 2 - 2)) = UInt8.ofNat ((b * 64 + c) / 4) := byte_eq (by omega)
      have hy'' : UInt8.ofNat (((((0 * 64 + a) * 64 + b) % 2 ^ (0 + 6 - 2) * 64 + c) % 2 ^ (0 + 6 - 2 - 2) * 64 + d) / 2 ^ (0 + 6 - 2 - 2 - 2)) = UInt8.ofNat (c * 64 + d) := byte_eq (by omega)
      have hv : ((((0 * 64 + a) * 64 + b) % 2 ^ (0 + 6 - 2) * 64 + c) % 2 ^ (0 + 6 - 2 - 2) * 64 + d) % 2 ^ (0 + 6 - 2 - 2 - 2) = 0 := by omega
      rw [hy, hy', hy'', hv, show (0 + 6 - 2 - 2 - 2 : Nat) = 0 from rfl, Option.map_map, Option.map_map]; rfl
    rw [e1]
    unfold dec
    rw [e2]
    cases unS 0 0 (ds r) with
    | none => rfl
    | some o =>
      have e3 : enc ([UInt8.ofNat ((a * 64 + b) / 16), UInt8.ofNat ((b * 64 + c) / 4), UInt8.ofNat (c * 64 + d)] ++ o) = ltr a :: ltr b :: ltr c :: ltr d :: enc o := by
        show chunk ((UInt8.ofNat ((a * 64 + b) / 16)).toNat * 65536 + (UInt8.ofNat ((b * 64 + c) / 4)).toNat * 256 + (UInt8.ofNat (c * 64 + d)).toNat) ++ enc o = _
        rw [toNat_byte, toNat_byte, toNat_byte]
        exact cons_ltr (by omega) (cons_ltr (by omega) (cons_ltr (by omega) (cons_ltr (by omega) rfl)))
      rw [Option.map_some, Option.bind_some, Option.bind_some, e3]
      by_cases hz : enc o = ds r
      · rw [if_pos hz, hz, if_pos rfl]; rfl
      · rw [if_neg hz, if_neg]; rfl
        intro he; injection he with _ he; injection he with _ he; injection he with _ he; injection he with _ he; exact hz he

/-- the two ways agree, whatever stood in the word -/
theorem decS_dec (l : List UInt8) (H : Nat) : decS H 0 l = dec l := by
  rcases letters l with ⟨l', rfl, h⟩ | ⟨p, c, r, rfl, hp, hc⟩
  · exact dec_ds l' h H
  · rw [decS_none p c r hp hc, dec, unS_none p c r hp hc]; rfl

theorem dec_some {l o : List UInt8} (h : dec l = some o) : enc o = l ∧ unS 0 0 l = some o := by
  unfold dec at h
  cases hu : unS 0 0 l with
  | none => rw [hu] at h; cases h
  | some o' =>
    rw [hu, Option.bind_some] at h
    by_cases he : enc o' = l
    · rw [if_pos he] at h; injection h with h; rw [← h]; exact ⟨he, rfl⟩
    · rw [if_neg he] at h; cases h
theorem dec_none {l o : List UInt8} (h : dec l = none) (hu : unS 0 0 l = some o) : enc o ≠ l := by
  intro he
  unfold dec at h
  rw [hu, Option.bind_some, if_pos he] at h; cases h

theorem unS_enc : ∀ l : List UInt8, unS 0 0 (enc l) = some l
  | [] => rfl
  | [a] => by
    have ha := a.toNat_lt
    show unS 0 0 [ltr (a.toNat * 65536 / 262144), ltr (a.toNat * 65536 / 4096 % 64)] = _
    rw [unS_ltr _ _ _ (by omega), if_pos (by decide), unS_ltr _ _ _ (by omega), if_neg (by decide), unS]
    have : UInt8.ofNat (((0 * 64 + a.toNat * 65536 / 262144) * 64 + a.toNat * 65536 / 4096 % 64) / 2 ^ (0 + 6 - 2)) = a := by
      apply UInt8.toNat_inj.1; rw [toNat_byte]; omega
    rw [this]; rfl
  | [a, b] => by
    have ha := a.toNat_lt
    have hb := b.toNat_lt
    obtain ⟨v, hv⟩ : ∃ v, v = a.toNat * 65536 + b.toNat * 256 := ⟨_, rfl⟩
    show unS 0 0 [ltr ((a.toNat * 65536 + b.toNat * 256) / 262144), ltr ((a.toNat * 65536 + b.toNat * 256) / 4096 % 64), ltr ((a.toNat * 65536 + b.toNat * 256) / 64 % 64)] = _
    rw [← hv]
    rw [unS_ltr _ _ _ (by omega), if_pos (by decide), unS_ltr _ _ _ (by omega), if_neg (by decide), unS_ltr _ _ _ (by omega), if_neg (by decide), unS]
    have h1 : UInt8.ofNat (((0 * 64 + v / 262144) * 64 + v / 4096 % 64) / 2 ^ (0 + 6 - 2)) = a := by
      apply UInt8.toNat_inj.1; rw [toNat_byte]; omega
    have h2 : UInt8.ofNat ((((0 * 64 + v / 262144) * 64 + v / 4096 % 64) % 2 ^ (0 + 6 - 2) * 64 + v / 64 % 64) / 2 ^ (0 + 6 - 2 - 2)) = b := by
      apply UInt8.toNat_inj.1; rw [toNat_byte]; omega
    rw [h1, h2]; rfl
  | a :: b :: c :: r => by
    have ha := a.toNat_lt
    have hb := b.toNat_lt
    have hc := c.toNat_lt
    obtain ⟨v, hv⟩ : ∃ v, v = a.toNat * 65536 + b.toNat * 256 + c.toNat := ⟨_, rfl⟩
    show unS 0 0 (ltr ((a.toNat * 65536 + b.toNat * 256 + c.toNat) / 262144) :: ltr ((a.toNat * 65536 + b.toNat * 256 + c.toNat) / 4096 % 64) :: ltr ((a.toNat * 65536 + b.toNat * 256 + c.toNat) / 64 % 64) :: ltr ((a.toNat * 65536 + b.toNat * 256 + c.toNat) % 64) :: enc r) = _
    rw [← hv]
    rw [unS_ltr _ _ _ (by omega), if_pos (by decide), unS_ltr _ _ _ (by omega), if_neg (by decide), unS_ltr _ _ _ (by omega), if_neg (by decide), unS_ltr _ _ _ (by omega), if_neg (by decide)]
    have h1 : UInt8.ofNat (((0 * 64 + v / 262144) * 64 + v / 4096 % 64) / 2 ^ (0 + 6 - 2)) = a := by
      apply UInt8.toNat_inj.1; rw [toNat_byte]; omega
    have h2 : UInt8.ofNat ((((0 * 64 + v / 262144) * 64 + v / 4096 % 64) % 2 ^ (0 + 6 - 2) * 64 + v / 64 % 64) / 2 ^ (0 + 6 - 2 - 2)) = b := by
      apply UInt8.toNat_inj.1; rw [toNat_byte]; omega
    have h3 : UInt8.ofNat (((((0 * 64 + v / 262144) * 64 + v / 4096 % 64) % 2 ^ (0 + 6 - 2) * 64 + v / 64 % 64) % 2 ^ (0 + 6 - 2 - 2) * 64 + v % 64) / 2 ^ (0 + 6 - 2 - 2 - 2)) = c := by
      apply UInt8.toNat_inj.1; rw [toNat_byte]; omega
    have h4 : ((((0 * 64 + v / 262144) * 64 + v / 4096 % 64) % 2 ^ (0 + 6 - 2) * 64 + v / 64 % 64) % 2 ^ (0 + 6 - 2 - 2) * 64 + v % 64) % 2 ^ (0 + 6 - 2 - 2 - 2) = 0 := by omega
    rw [h1, h2, h3, h4, show (0 + 6 - 2 - 2 - 2 : Nat) = 0 from rfl, unS_enc r]; rfl
theorem dec_enc (l : List UInt8) : dec (enc l) = some l := by unfold dec; rw [unS_enc, Option.bind_some, if_pos rfl]

theorem dec_bad (l : List UInt8) (c : UInt8) (hc : ix c = -1) : dec (l ++ [c]) = none := by
  have : unS 0 0 (l ++ [c]) = none := by
    rcases letters l with ⟨l', rfl, h⟩ | ⟨p, c', r, rfl, hp, hc'⟩
    · exact unS_none l' c [] h hc 0 0
    · rw [List.append_assoc]; exact unS_none p c' (r ++ [c]) hp hc' 0 0
  unfold dec; rw [this]; rfl
theorem dec_len {l : List UInt8} (h : l.length % 4 = 1) : dec l = none := by
  cases hd : dec l with
  | none => rfl
  | some o =>
    have := (dec_some hd).1
    have hl := enc_len o
    rw [this] at hl; omega
end Go.Proofs.YtdiljjoaihfloaaDoor
namespace Go.Proofs.YtdiljjoaihfloaaDoor

theorem drop_cons (l : List UInt8) (k : Nat) (h : k < l.length) : l.drop k = l[k] :: l.drop (k + 1) := List.drop_eq_getElem_cons h
/-- what stands as it is in a form -/
def plainB (c : UInt8) : Bool := decide (97 ≤ c.toNat ∧ c.toNat ≤ 122 ∨ 65 ≤ c.toNat ∧ c.toNat ≤ 90 ∨ 48 ≤ c.toNat ∧ c.toNat ≤ 57 ∨ c.toNat = 45 ∨ c.toNat = 46 ∨ c.toNat = 95 ∨ c.toNat = 126)
def alnumB (c : UInt8) : Bool := decide (97 ≤ c.toNat ∧ c.toNat ≤ 122 ∨ 65 ≤ c.toNat ∧ c.toNat ≤ 90 ∨ 48 ≤ c.toNat ∧ c.toNat ≤ 57)

/-- a hexadecimal digit's number; -1: none -/
def hexI (c : UInt8) : Int := if 48 ≤ c.toNat ∧ c.toNat ≤ 57 then c.toNat - 48 else if 65 ≤ c.toNat ∧ c.toNat ≤ 70 then c.toNat - 55 else if 97 ≤ c.toNat ∧ c.toNat ≤ 102 then c.toNat - 87 else -1
theorem hexI_spec (c : UInt8) : (48 ≤ (c.toNat : Int) ∧ (c.toNat : Int) ≤ 57 ∧ hexI c = c.toNat - 48) ∨ (65 ≤ (c.toNat : Int) ∧ (c.toNat : Int) ≤ 70 ∧ hexI c = c.toNat - 55) ∨ (97 ≤ (c.toNat : Int) ∧ (c.toNat : Int) ≤ 102 ∧ hexI c = c.toNat - 87) ∨
    (((c.toNat : Int) < 48 ∨ 57 < (c.toNat : Int) ∧ (c.toNat : Int) < 65 ∨ 70 < (c.toNat : Int) ∧ (c.toNat : Int) < 97 ∨ 102 < (c.toNat : Int)) ∧ hexI c = -1) := by
  unfold hexI
  split
  · omega
  · split
    · omega
    · split <;> omega

def hexU (n : Nat) : UInt8 := (#[48, 49, 50, 51, 52, 53, 54, 55, 56, 57, 65, 66, 67, 68, 69, 70] : Array UInt8).getD n 0
def hexBytes : ByteArray := ⟨#[48, 49, 50, 51, 52, 53, 54, 55, 56, 57, 65, 66, 67, 68, 69, 70]⟩
theorem hexU_at {n : Nat} (h : n < hexBytes.size) : hexBytes[n] = hexU n := by
  have h' : n < hexBytes.data.size := h
  show hexBytes.data[n] = hexBytes.data.getD n 0
  rw [Array.getD_eq_getD_getElem?, Array.getElem?_eq_getElem h']; rfl
def quote1 (c : UInt8) : List UInt8 := if plainB c then [c] else [37, hexU (c.toNat / 16), hexU (c.toNat % 16)]
def quoteL (l : List UInt8) : List UInt8 := l.flatMap quote1
theorem quoteL_snoc (l : List UInt8) (c : UInt8) : quoteL (l ++ [c]) = quoteL l ++ quote1 c := by simp [quoteL]
theorem quoteL_le (l : List UInt8) : (quoteL l).length ≤ 3 * l.length := by
  induction l with
  | nil => simp [quoteL]
  | cons c l ih =>
    have : quoteL (c :: l) = quote1 c ++ quoteL l := by simp [quoteL]
    rw [this, List.length_append]
    have : (quote1 c).length ≤ 3 := by unfold quote1; split <;> simp
    simp; omega

def digN (c : UInt8) : Int := if hexI c < 0 then 0 else hexI c
def digB (c : UInt8) : Bool := decide (0 ≤ hexI c)
theorem hexI_bd (c : UInt8) : -1 ≤ hexI c ∧ hexI c ≤ 15 := by have := hexI_spec c; omega
theorem digN_bd (c : UInt8) : 0 ≤ digN c ∧ digN c ≤ 15 := by have := hexI_bd c; unfold digN; split <;> omega
theorem digN_of {c : UInt8} (h : digB c = true) : digN c = hexI c ∧ 0 ≤ hexI c := by
  have : 0 ≤ hexI c := by simpa [digB] using h
  unfold digN; rw [if_neg (by omega)]; exact ⟨rfl, this⟩


def hexByte (a b : UInt8) : UInt8 := UInt8.ofNat (16 * digN a + digN b).toNat
theorem hexByte_toNat (a b : UInt8) : ((hexByte a b).toNat : Int) = 16 * digN a + digN b := by
  have := digN_bd a; have := digN_bd b
  unfold hexByte; rw [UInt8.toNat_ofNat']; omega

/-- what a text stands for in a form -/
def unq : List UInt8 → Option (List UInt8)
  | [] => some []
  | c :: r =>
    if c.toNat = 43 then (unq r).map (32 :: ·)
    else if c.toNat = 37 then
      match r with
      | a :: b :: r' => if digB a && digB b then (unq r').map (hexByte a b :: ·) else none
      | _ => none
    else (unq r).map (c :: ·)

theorem unq_plus {c : UInt8} (r : List UInt8) (h : c.toNat = 43) : unq (c :: r) = (unq r).map (32 :: ·) := by
  rcases r with _ | ⟨a, _ | ⟨b, r⟩⟩
  · simp [unq, h]
  · simp [unq, h]
  · rw [unq, if_pos h]
theorem unq_same {c : UInt8} (r : List UInt8) (h : c.toNat ≠ 43) (h' : c.toNat ≠ 37) : unq (c :: r) = (unq r).map (c :: ·) := by
  rcases r with _ | ⟨a, _ | ⟨b, r⟩⟩
  · simp [unq, h, h']
  · simp [unq, h, h']
  · rw [unq, if_neg h, if_neg h']
theorem unq_hex {c : UInt8} (a b : UInt8) (r : List UInt8) (h' : c.toNat = 37) : unq (c :: a :: b :: r) = if digB a && digB b then (unq r).map (hexByte a b :: ·) else none := by
  rw [unq, if_neg (by omega), if_pos h']
theorem unq_short {c : UInt8} (r : List UInt8) (h' : c.toNat = 37) (hr : r.length ≤ 1) : unq (c :: r) = none := by
  rcases r with _ | ⟨a, _ | ⟨b, r⟩⟩
  · rw [unq, if_neg (by omega), if_pos h']; simp
  · rw [unq, if_neg (by omega), if_pos h']; simp
  · simp at hr

def UnqAt (l : List UInt8) (k : Nat) (acc : List UInt8) : Prop := unq l = (unq (l.drop k)).map (acc ++ ·)
theorem unqAt_start (l : List UInt8) : UnqAt l 0 [] := by unfold UnqAt; simp
theorem unqAt_end {l acc : List UInt8} (h : UnqAt l l.length acc) : unq l = some acc := by unfold UnqAt at h; rw [h]; simp [unq]
theorem unqAt_plus {l acc : List UInt8} {k : Nat} (h : UnqAt l k acc) (hk : k < l.length) (hc : l[k].toNat = 43) : UnqAt l (k + 1) (acc ++ [32]) := by
  unfold UnqAt at h ⊢
  rw [h, drop_cons l k hk, unq_plus _ hc, Option.map_map]; congr 1; funext x; simp
theorem unqAt_same {l acc : List UInt8} {k : Nat} (h : UnqAt l k acc) (hk : k < l.length) (hc : l[k].toNat ≠ 43) (hc' : l[k].toNat ≠ 37) : UnqAt l (k + 1) (acc ++ [l[k]]) := by
  unfold UnqAt at h ⊢
  rw [h, drop_cons l k hk, unq_same _ hc hc', Option.map_map]; congr 1; funext x; simp
theorem unqAt_hex {l acc : List UInt8} {k : Nat} (h : UnqAt l k acc) (hk : k + 2 < l.length) (hc' : l[k].toNat = 37) (ha : digB l[k + 1] = true) (hb : digB l[k + 2] = true) :
    UnqAt l (k + 3) (acc ++ [hexByte l[k + 1] l[k + 2]]) := by
  unfold UnqAt at h ⊢
  rw [h, drop_cons l k (by omega), drop_cons l (k + 1) (by omega), drop_cons l (k + 2) (by omega), unq_hex _ _ _ hc']
  simp only [ha, hb, Bool.and_self, if_true]
  rw [Option.map_map]; congr 1; funext x; simp
theorem unqAt_short {l acc : List UInt8} {k : Nat} (h : UnqAt l k acc) (hk : k < l.length) (hs : l.length ≤ k + 2) (hc' : l[k].toNat = 37) : unq l = none := by
  unfold UnqAt at h
  rw [h, drop_cons l k hk, unq_short _ hc' (by simp; omega)]; rfl
theorem unqAt_bad {l acc : List UInt8} {k : Nat} (h : UnqAt l k acc) (hk : k + 2 < l.length) (hc' : l[k].toNat = 37) (ha : digB l[k + 1] = false ∨ digB l[k + 2] = false) : unq l = none := by
  unfold UnqAt at h
  rw [h, drop_cons l k (by omega), drop_cons l (k + 1) (by omega), drop_cons l (k + 2) (by omega), unq_hex _ _ _ hc']
  have : (digB l[k + 1] && digB l[k + 2]) = false := by rcases ha with h | h <;> simp [h]
  simp only [this, Bool.false_eq_true, if_false]; rfl

theorem hexU_all : ∀ n : Nat, n < 256 → digB (hexU (n / 16)) = true ∧ digB (hexU (n % 16)) = true ∧ hexByte (hexU (n / 16)) (hexU (n % 16)) = UInt8.ofNat n := by decide +kernel
theorem plain_not (c : UInt8) (h : plainB c = true) : c.toNat ≠ 43 ∧ c.toNat ≠ 37 := by simp [plainB] at h; omega
theorem unq_quote1 (c : UInt8) (r : List UInt8) : unq (quote1 c ++ r) = (unq r).map (c :: ·) := by
  unfold quote1
  split
  · rename_i h
    exact unq_same _ (plain_not c h).1 (plain_not c h).2
  · have := hexU_all c.toNat c.toNat_lt
    show unq (37 :: hexU (c.toNat / 16) :: hexU (c.toNat % 16) :: r) = _
    rw [unq_hex _ _ _ (by decide), this.1, this.2.1, this.2.2, UInt8.ofNat_toNat]; rfl
theorem unq_quoteL (l : List UInt8) : unq (quoteL l) = some l := by
  induction l with
  | nil => rfl
  | cons c l ih =>
    have : quoteL (c :: l) = quote1 c ++ quoteL l := by simp [quoteL]
    rw [this, unq_quote1, ih]; rfl

end Go.Proofs.YtdiljjoaihfloaaDoor
namespace Go.Proofs.YtdiljjoaihfloaaDoor
open Go.RowKit


theorem ret_int {k : IntKind} {a b : Int} (h : a = b) : Ending.returned (.int k a) = .returned (.int k b) := by rw [h]
theorem ret_bool {a b : Bool} (h : a = b) : Ending.returned (.bool a) = .returned (.bool b) := by rw [h]

theorem ret_tup {k : IntKind} {a b : Int} {x y : Bool} (h : a = b) (h' : x = y) : Ending.returned (.tuple #[.int k a, .bool x]) = .returned (.tuple #[.int k b, .bool y]) := by rw [h, h']

theorem int_eq {k : IntKind} {a b : Int} (h : a = b) : Value.int k a = .int k b := by rw [h]
theorem ret_sb {x : ByteArray} {a b : Bool} (h : a = b) : Ending.returned (.tuple #[.string x, .bool a]) = .returned (.tuple #[.string x, .bool b]) := by rw [h]
theorem byte_of_wf {x : Int} (h : (Lit.int .u8 x).wf = true) : 0 ≤ x ∧ x < 256 := by
  simp [Lit.wf, IntKind.min, IntKind.max, IntKind.signed, IntKind.bits] at h
  exact ⟨by omega, by omega⟩
theorem byte_ex {x : Int} (h : (Lit.int .u8 x).wf = true) : ∃ c : UInt8, x = (c.toNat : Int) := by
  have := byte_of_wf h
  exact ⟨UInt8.ofNat x.toNat, by rw [UInt8.toNat_ofNat']; omega⟩

theorem str_eq {a b : ByteArray} (h : a = b) : Value.string a = .string b := by rw [h]


theorem _root_.Go.RowKit.Below.chain {a b c : World} (h : Below a.heap.size a b) (h' : Below b.heap.size b c) : Below a.heap.size a c := h.trans (h'.mono h.size)


theorem belowDrewN {B : Nat} {a w : World} (h : Below B a w) (n : Nat) : Below B a (w.drewN n) := ⟨h.os, h.tape, h.output, h.size, h.block⟩
theorem run_slice_string_lh {P : Program} (w : World) (t : TypeId) (s : ByteArray) (ht : P.underlying t = some .string) (kl kh : IntKind) (l h : Int) (h0 : 0 ≤ l) (h1 : l ≤ h) (h2 : h ≤ s.size) :
    (Instr.slice t (.string s) (some (.int kl l)) (some (.int kh h)) none).run P w = .ok (.string (s.extract l.toNat h.toNat)) w := by
  have eh : (h.toNat : Int) = h := Int.toNat_of_nonneg (by omega)
  simp [Instr.slice, run_underlying ht, Instr.sliceBounds, run_sliceBound, *, (by omega : 0 ≤ h)]
theorem below_drew2 (w w2 : World) (h : Below w.drew.heap.size w.drew w2) : Below w.heap.size w w2 := by
  have e : w.drew.heap.size = w.heap.size := rfl
  rw [e] at h; exact ((Below.refl w.heap.size w).drew).trans h
theorem wraps_i64 (n : Int) (h₀ : 0 ≤ n) (h₁ : n < 2 ^ 63) : IntKind.i64.wrap n = n := by rw [IntKind.wrap_i64]; omega
theorem bits_xor_nat (k : IntKind) (j : Nat) (hj : j ≤ k.bits) (hk : ∀ n : Int, 0 ≤ n → n < 2 ^ j → k.wrap n = n) (a b : Nat) (ha : a < 2 ^ j) (hb : b < 2 ^ j) :
    bits .xor k a b = ((a ^^^ b : Nat) : Int) := by
  have hp : 2 ^ j ≤ 2 ^ k.bits := Nat.pow_le_pow_right (by decide) hj
  have ha' : a % 2 ^ k.bits = a := Nat.mod_eq_of_lt (Nat.lt_of_lt_of_le ha hp)
  have hb' : b % 2 ^ k.bits = b := Nat.mod_eq_of_lt (Nat.lt_of_lt_of_le hb hp)
  simp only [bits, BitVec.ofInt_natCast, BitVec.toNat_xor, BitVec.toNat_ofNat, ha', hb']
  exact hk _ (Int.natCast_nonneg _) (by exact_mod_cast Nat.xor_lt_two_pow ha hb)

theorem xor_zero_iff (a b : Nat) : a ^^^ b = 0 ↔ a = b := by
  constructor
  · intro h
    refine Nat.eq_of_testBit_eq fun i => ?_
    have := congrArg (fun n => n.testBit i) h
    simp only [Nat.testBit_xor, Nat.zero_testBit] at this
    revert this; cases a.testBit i <;> cases b.testBit i <;> simp
  · rintro rfl; exact Nat.xor_self a

theorem ext_size (s : ByteArray) (k : Nat) : (s.extract k s.size).size = s.size - k := by simp [ByteArray.size_extract]
theorem ext_get (s : ByteArray) (k i : Nat) (h : i < (s.extract k s.size).size) (h' : k + i < s.size) : (s.extract k s.size)[i] = s[k + i] := by simp [ByteArray.getElem_extract]
theorem take_snoc (s : ByteArray) (k : Nat) (h : k < s.size) : s.data.toList.take (k + 1) = s.data.toList.take k ++ [s[k]] := by
  rw [List.take_succ_eq_append_getElem (by simpa using h)]; rfl

theorem ret_str {a b : List UInt8} (h : a = b) : Ending.returned (.string ⟨a.toArray⟩) = .returned (.string ⟨b.toArray⟩) := by rw [h]
theorem take_all (s : ByteArray) : s.data.toList.take s.size = s.data.toList := List.take_of_length_le (Nat.le_refl _)
theorem app_list (a : List UInt8) (c : UInt8) : (ByteArray.mk a.toArray ++ ByteArray.mk #[c]).data.toList = a ++ [c] := by simp [ByteArray.data_append]
theorem app_size (a : List UInt8) (c : UInt8) (h : a.length ≤ 1000) : (ByteArray.mk a.toArray ++ ByteArray.mk #[c]).size ≤ 46912496117759 := by
  have : (ByteArray.mk a.toArray ++ ByteArray.mk #[c]).size = (ByteArray.mk a.toArray ++ ByteArray.mk #[c]).data.toList.length := rfl
  rw [this, app_list, List.length_append]; simp; omega
theorem and_mask (x : Int) (h0 : 0 ≤ x) (h1 : x < 4294967296) (i : Nat) (hi : i ≤ 32) : bits .and .u32 x (2 ^ i - 1) = x % 2 ^ i :=
  bits_mask .u32 32 (by decide) (fun n h0 h1 => by rw [IntKind.wrap_u32]; omega) i hi x h0 h1


theorem Tryd.infoByte : (Tryd.prog.info? 5).map (fun i => (i.zero, i.size, i.bytes)) = some (some (.int .u8 0), 1, 1) := by kernel_rfl

def cells (l : List UInt8) : List Value := l.map fun c => Value.int .u8 (c.toNat : Int)
theorem cells_app (a b : List UInt8) : cells (a ++ b) = cells a ++ cells b := by simp [cells]
theorem cells_one (l : List UInt8) : ∀ u ∈ cells l, u.oneCell' = true := by
  intro u hu; obtain ⟨_, _, rfl⟩ := List.mem_map.1 hu; rfl
theorem new_cells (w : World) (cs : Array Value) (e : TypeId) : ∀ j u, cs.toList[j]? = some u → (w.alloc (.cells cs e)).cell? ((⟨w.heap.size, 0, none⟩ : Addr).add j) = some u := by
  intro j u h
  rw [Addr.add_lit, Nat.zero_add, World.cell?_alloc_mark]
  simpa using h

/-- append onto a row of the call's own, as one step of a region that draws its order -/
theorem step_append_own {P : Program} {w : World} {ops : Array Oper} {o : Oper} {a : Act} {K : Act → World → Prop} {Q : Exit → Act → World → Prop} {E : Prop} (hgd : o.guard = none) (s x : Operand) (t : TypeId)
    (ho : o.op = .call { callee := .builtin .append, args := #[s, x], argTypes := #[t, t] })
    (base : Nat) (e : TypeId) (i : TypeInfo) (z : Value) (size bytes : Nat) (ht : P.underlying t = some (.slice e)) (hi : P.info? e = some i) (hz : i.zero = some z)
    (hsize : i.size = size) (hby : i.bytes = bytes) (hzs : z.cells.size = size) (hsz : 0 < size)
    (v : Value) (n : Nat) (xs : List Value) (hs : a.eval s = v) (hown : w.ownsRow base e size v n xs)
    (ad : Addr) (m c : Nat) (news : List Value) (hx : a.eval x = .slice (some ad) m c) (hl : news.length = m * size) (hnews : ∀ j u, news[j]? = some u → w.cell? (ad.add j) = some u) (h1 : ∀ u ∈ news, u.oneCell' = true)
    (h63 : n + m ≤ maxLen) (hbytes : (n + m) * bytes ≤ 140737488355328) (hbase : base ≤ w.heap.size)
    (h : ∀ v' w', w'.ownsRow base e size v' (n + m) (xs ++ news) → w.grownBy w' v.ownBlock → (v' = .slice none 0 0 ↔ v = .slice none 0 0 ∧ m = 0) → K (a.put o.dst v') w') :
    if Region.wanted o (yielded ops a.tmps) = true then Oper.wp P o a w K Q else E := by
  have hw : Region.wanted o (yielded ops a.tmps) = true := by simp [Region.wanted, hgd]
  rw [if_pos hw]
  exact wp_append_own w s x t ho base e i z size bytes ht hi hz hsize hby hzs hsz v n xs hs hown ad m c news hx hl hnews h1 h63 hbytes hbase h

theorem one_cell (x : Int) : ∀ u ∈ [Value.int .u8 x], u.oneCell' = true := by intro u hu; simp at hu; subst hu; rfl
theorem three_cells (x y z : Int) : ∀ u ∈ [Value.int .u8 x, Value.int .u8 y, Value.int .u8 z], u.oneCell' = true := by
  intro u hu; simp at hu; rcases hu with rfl | rfl | rfl <;> rfl

/-- a buffer of bytes of the call's own -/
def Buf (w : World) (B : Nat) (v : Value) (l : List UInt8) : Prop := w.ownsRow B 5 1 v l.length (cells l)
theorem Buf.cut {w : World} {B : Nat} {v : Value} {n : Nat} {l : List UInt8} {xs : List Value} (h : w.ownsRow B 5 1 v n xs) (hn : n = l.length) (hx : xs = cells l) : Buf w B v l := by subst hn; subst hx; exact h

/-- 'string(buf)' -/
theorem Buf.text {w : World} {B : Nat} {v : Value} {l : List UInt8} (h : Buf w B v l) : (convert 26 9 v).run Tryd.prog w = .ok (.string ⟨l.toArray⟩) w := by
  rcases h.2 with ⟨rfl, h0⟩ | ⟨g, cap, cur, rfl, -, -, -, -, -, -⟩
  · obtain rfl : l = [] := List.length_eq_zero_iff.1 h0
    rw [run_convert_bytes_string (P := Tryd.prog) w 26 9 5 none 0 0 Tryd.underlying26 Tryd.underlying5 Tryd.underlying9]
    rfl
  · refine run_convert_bytes_back (P := Tryd.prog) w 26 9 5 ⟨g, 0, none⟩ cap l Tryd.underlying26 Tryd.underlying5 Tryd.underlying9 (fun j hj => ?_)
    exact World.ownsRow.cells h (g := g) rfl j _ (by simp [cells, hj])

theorem new_cells_take (w : World) (cs : Array Value) (e : TypeId) (m : Nat) : ∀ j u, (cs.toList.take m)[j]? = some u → (w.alloc (.cells cs e)).cell? ((⟨w.heap.size, 0, none⟩ : Addr).add j) = some u := by
  intro j u h
  rw [List.getElem?_take] at h
  split at h
  · exact new_cells w cs e j u h
  · cases h

theorem two_cells (x y : Int) : ∀ u ∈ [Value.int .u8 x, Value.int .u8 y], u.oneCell' = true := by
  intro u hu; simp at hu; rcases hu with rfl | rfl <;> rfl
theorem four_cells (x y z t : Int) : ∀ u ∈ [Value.int .u8 x, Value.int .u8 y, Value.int .u8 z, Value.int .u8 t], u.oneCell' = true := by
  intro u hu; simp at hu; rcases hu with rfl | rfl | rfl | rfl <;> rfl

theorem Buf.below {w w' : World} {B : Nat} {v : Value} {l : List UInt8} (h : Buf w B v l) (hb : Below w.heap.size w w') : Buf w' B v l :=
  World.ownsRow.kept (row := none) h ⟨hb.os, hb.tape, hb.output, hb.size, fun k hk _ => hb.block k hk⟩ (by
    rcases h.2 with ⟨rfl, _⟩ | ⟨g, cap, cur, rfl, _⟩
    · exact .inl rfl
    · exact .inr (by simp [Value.ownBlock]))


theorem conv_new (w : World) (l : List UInt8) (cs : Array Value) (n c : Nat) (hn : n = l.length) (h : cs.toList = cells l) :
    (convert 26 9 (.slice (some ⟨w.heap.size, 0, none⟩) n c)).run Tryd.prog (w.alloc (.cells cs 5)) = .ok (.string ⟨l.toArray⟩) (w.alloc (.cells cs 5)) := by
  subst hn
  refine run_convert_bytes_back (P := Tryd.prog) _ 26 9 5 ⟨w.heap.size, 0, none⟩ c l Tryd.underlying26 Tryd.underlying5 Tryd.underlying9 (fun j hj => ?_)
  exact new_cells w cs 5 j _ (by rw [h]; simp [cells, hj])

theorem conv_newD (w : World) (l : List UInt8) (cs : Array Value) (n c : Nat) (hn : n = l.length) (h : cs.toList = cells l) :
    (convert 26 9 (.slice (some ⟨w.heap.size, 0, none⟩) n c)).run Tryd.prog (w.alloc (.cells cs 5)).drew = .ok (.string ⟨l.toArray⟩) (w.alloc (.cells cs 5)).drew := by
  subst hn
  refine run_convert_bytes_back (P := Tryd.prog) _ 26 9 5 ⟨w.heap.size, 0, none⟩ c l Tryd.underlying26 Tryd.underlying5 Tryd.underlying9 (fun j hj => ?_)
  exact new_cells w cs 5 j _ (by rw [h]; simp [cells, hj])

theorem cells_byte (l : List UInt8) (n m : Nat) (x : Int) (hx : x = (n : Int) % 256) (hn : n % 256 = m % 256) : cells l ++ [Value.int .u8 x] = cells (l ++ [UInt8.ofNat m]) := by
  subst hx
  rw [cells_app]
  have : (UInt8.ofNat m).toNat = m % 256 := UInt8.toNat_ofNat'
  show _ = cells l ++ [Value.int .u8 ((UInt8.ofNat m).toNat : Int)]
  rw [this, ← hn]; rfl

theorem hex_cells (c : UInt8) (a b : Int) (ha : a = (c.toNat : Int) / 16) (hb : b = (c.toNat : Int) % 16) (h1 : a.toNat < hexBytes.size) (h2 : b.toNat < hexBytes.size) :
    [Value.int .u8 37, .int .u8 (hexBytes[a.toNat].toNat : Int), .int .u8 (hexBytes[b.toNat].toNat : Int)] = cells [37, hexU (c.toNat / 16), hexU (c.toNat % 16)] := by
  rw [hexU_at h1, hexU_at h2]
  have e1 : a.toNat = c.toNat / 16 := by omega
  have e2 : b.toNat = c.toNat % 16 := by omega
  rw [e1, e2]; rfl
end Go.Proofs.YtdiljjoaihfloaaDoor
namespace Go.Proofs.YtdiljjoaihfloaaDoor
open Go.RowKit

/-! ## words: what the model's operations on uint32 are at words -/
def rotr (x : UInt32) (n : Nat) : UInt32 := UInt32.ofNat (x.toNat / 2 ^ n ||| x.toNat * 2 ^ (32 - n) % 4294967296)
/-- the operations on words, behind names (simp knows how UInt32's own ones read as numbers, and would turn the rules below back) -/
def addW (x y : UInt32) : UInt32 := x + y
def xorW (x y : UInt32) : UInt32 := x ^^^ y
def andW (x y : UInt32) : UInt32 := x &&& y
def orW (x y : UInt32) : UInt32 := x ||| y
def notW (x : UInt32) : UInt32 := xorW 4294967295 x
/-- a word of a number -/
def natW (n : Nat) : UInt32 := UInt32.ofNat n
theorem natW_nat (n : Nat) (h : n < 4294967296) : (natW n).toNat = n := by
  unfold natW; rw [UInt32.toNat_ofNat']; exact Nat.mod_eq_of_lt h
theorem w_lt (x : UInt32) : x.toNat < 4294967296 := x.toNat_lt
theorem or_lt32 (a b : Nat) (ha : a < 4294967296) (hb : b < 4294967296) : a ||| b < 4294967296 := Nat.or_lt_two_pow (n := 32) ha hb
theorem bits_word_or (a b : Nat) (ha : a < 4294967296) (hb : b < 4294967296) : bits .or .u32 (a : Int) (b : Int) = ((a ||| b : Nat) : Int) :=
  (bits_nat .u32 32 (by decide) (fun n h0 h1 => by rw [IntKind.wrap_u32]; omega) a b ha hb).2
theorem bits_word_and (a b : Nat) (ha : a < 4294967296) (hb : b < 4294967296) : bits .and .u32 (a : Int) (b : Int) = ((a &&& b : Nat) : Int) :=
  (bits_nat .u32 32 (by decide) (fun n h0 h1 => by rw [IntKind.wrap_u32]; omega) a b ha hb).1
theorem rotr_nat (x : UInt32) (n : Nat) : (rotr x n).toNat = x.toNat / 2 ^ n ||| x.toNat * 2 ^ (32 - n) % 4294967296 := by
  unfold rotr
  rw [UInt32.toNat_ofNat']
  exact Nat.mod_eq_of_lt (or_lt32 _ _ (Nat.lt_of_le_of_lt (Nat.div_le_self _ _) (w_lt x)) (Nat.mod_lt _ (by decide)))
theorem w_add (x y : UInt32) : ((x.toNat : Int) + (y.toNat : Int)) % 4294967296 = ((addW x y).toNat : Int) := by unfold addW; rw [UInt32.toNat_add]; omega
theorem w_and (x y : UInt32) : bits .and .u32 (x.toNat : Int) (y.toNat : Int) = ((andW x y).toNat : Int) := by
  unfold andW; rw [bits_word_and _ _ (w_lt x) (w_lt y), UInt32.toNat_and]
theorem w_xor (x y : UInt32) : bits .xor .u32 (x.toNat : Int) (y.toNat : Int) = ((xorW x y).toNat : Int) := by
  unfold xorW; rw [bits_xor_nat .u32 32 (by decide) (fun n h0 h1 => by rw [IntKind.wrap_u32]; omega) _ _ (w_lt x) (w_lt y), UInt32.toNat_xor]
theorem w_or (x y : UInt32) : bits .or .u32 (x.toNat : Int) (y.toNat : Int) = ((orW x y).toNat : Int) := by
  unfold orW; rw [bits_word_or _ _ (w_lt x) (w_lt y), UInt32.toNat_or]

theorem w_not (x : UInt32) : bits .xor .u32 IntKind.u32.max (x.toNat : Int) = ((notW x).toNat : Int) := w_xor 4294967295 x

/-! ## the sum -/
def kL : List UInt32 := [0x428a2f98, 0x71374491, 0xb5c0fbcf, 0xe9b5dba5, 0x3956c25b, 0x59f111f1, 0x923f82a4, 0xab1c5ed5,
  0xd807aa98, 0x12835b01, 0x243185be, 0x550c7dc3, 0x72be5d74, 0x80deb1fe, 0x9bdc06a7, 0xc19bf174,
  0xe49b69c1, 0xefbe4786, 0x0fc19dc6, 0x240ca1cc, 0x2de92c6f, 0x4a7484aa, 0x5cb0a9dc, 0x76f988da,
  0x983e5152, 0xa831c66d, 0xb00327c8, 0xbf597fc7, 0xc6e00bf3, 0xd5a79147, 0x06ca6351, 0x14292967,
  0x27b70a85, 0x2e1b2138, 0x4d2c6dfc, 0x53380d13, 0x650a7354, 0x766a0abb, 0x81c2c92e, 0x92722c85,
  0xa2bfe8a1, 0xa81a664b, 0xc24b8b70, 0xc76c51a3, 0xd192e819, 0xd6990624, 0xf40e3585, 0x106aa070,
  0x19a4c116, 0x1e376c08, 0x2748774c, 0x34b0bcb5, 0x391c0cb3, 0x4ed8aa4a, 0x5b9cca4f, 0x682e6ff3,
  0x748f82ee, 0x78a5636f, 0x84c87814, 0x8cc70208, 0x90befffa, 0xa4506ceb, 0xbef9a3f7, 0xc67178f2]
def kAt (i : Nat) : UInt32 := kL.getD i 0
structure S8 where
  a : UInt32
  b : UInt32
  c : UInt32
  d : UInt32
  e : UInt32
  f : UInt32
  g : UInt32
  h : UInt32
def h0 : S8 := ⟨0x6a09e667, 0xbb67ae85, 0x3c6ef372, 0xa54ff53a, 0x510e527f, 0x9b05688c, 0x1f83d9ab, 0x5be0cd19⟩
def lo0 (x : UInt32) : UInt32 := xorW (xorW (rotr x 7) (rotr x 18)) (natW (x.toNat / 8))
def lo1 (x : UInt32) : UInt32 := xorW (xorW (rotr x 17) (rotr x 19)) (natW (x.toNat / 1024))
def up1 (e : UInt32) : UInt32 := xorW (xorW (rotr e 6) (rotr e 11)) (rotr e 25)
def up0 (a : UInt32) : UInt32 := xorW (xorW (rotr a 2) (rotr a 13)) (rotr a 22)
def chW (e f g : UInt32) : UInt32 := xorW (andW e f) (andW (notW e) g)
def majW (a b c : UInt32) : UInt32 := xorW (xorW (andW a b) (andW a c)) (andW b c)
/-- a word out of four bytes -/
def wordL (b : List UInt8) (q : Nat) : UInt32 := UInt32.ofNat ((b.getD q 0).toNat * 16777216 + (b.getD (q + 1) 0).toNat * 65536 + (b.getD (q + 2) 0).toNat * 256 + (b.getD (q + 3) 0).toNat)
/-- the first words of a block's schedule; the block's bytes stand at p -/
def schedL (b : List UInt8) (p : Nat) : Nat → List UInt32
  | 0 => []
  | i + 1 => schedL b p i ++ [if i < 16 then wordL b (p + 4 * i) else
      addW (addW (addW ((schedL b p i).getD (i - 16) 0) (lo0 ((schedL b p i).getD (i - 15) 0))) ((schedL b p i).getD (i - 7) 0)) (lo1 ((schedL b p i).getD (i - 2) 0))]
theorem schedL_len (b : List UInt8) (p i : Nat) : (schedL b p i).length = i := by
  induction i with
  | zero => rfl
  | succ i ih => simp [schedL, ih]
def schedW (b : List UInt8) (p i : Nat) : UInt32 := (schedL b p (i + 1)).getD i 0
theorem schedL_at (b : List UInt8) (p : Nat) : ∀ (n i : Nat), i < n → (schedL b p n).getD i 0 = schedW b p i
  | 0, _, h => absurd h (Nat.not_lt_zero _)
  | n + 1, i, h => by
    rcases Nat.lt_succ_iff_lt_or_eq.1 h with h' | h'
    · rw [← schedL_at b p n i h', schedL]
      have hl : i < (schedL b p n).length := by rw [schedL_len]; exact h'
      simp [List.getD, List.getElem?_append, hl]
    · subst h'; rfl
theorem schedW_first (b : List UInt8) (p i : Nat) (h : i < 16) : schedW b p i = wordL b (p + 4 * i) := by
  unfold schedW schedL
  rw [if_pos h]
  simp [List.getD, schedL_len]
theorem schedW_next (b : List UInt8) (p i : Nat) (h : 16 ≤ i) : schedW b p i = addW (addW (addW (schedW b p (i - 16)) (lo0 (schedW b p (i - 15)))) (schedW b p (i - 7))) (lo1 (schedW b p (i - 2))) := by
  have e : schedW b p i = addW (addW (addW ((schedL b p i).getD (i - 16) 0) (lo0 ((schedL b p i).getD (i - 15) 0))) ((schedL b p i).getD (i - 7) 0)) (lo1 ((schedL b p i).getD (i - 2) 0)) := by
    unfold schedW
    rw [schedL, if_neg (by omega)]
    simp [List.getD, schedL_len]
  rw [e, schedL_at b p i _ (by omega), schedL_at b p i _ (by omega), schedL_at b p i _ (by omega), schedL_at b p i _ (by omega)]
/-- one round -/
def t1W (s : S8) (k w : UInt32) : UInt32 := addW (addW (addW (addW s.h (up1 s.e)) (chW s.e s.f s.g)) k) w
def t2W (s : S8) : UInt32 := addW (up0 s.a) (majW s.a s.b s.c)
def roundW (s : S8) (k w : UInt32) : S8 := ⟨addW (t1W s k w) (t2W s), s.a, s.b, s.c, addW s.d (t1W s k w), s.e, s.f, s.g⟩
def roundsW (b : List UInt8) (p : Nat) (s : S8) : Nat → S8
  | 0 => s
  | i + 1 => roundW (roundsW b p s i) (kAt i) (schedW b p i)
def addS (s t : S8) : S8 := ⟨addW s.a t.a, addW s.b t.b, addW s.c t.c, addW s.d t.d, addW s.e t.e, addW s.f t.f, addW s.g t.g, addW s.h t.h⟩
def blockW (b : List UInt8) (p : Nat) (s : S8) : S8 := addS s (roundsW b p s 64)
def blocksW (b : List UInt8) : Nat → S8
  | 0 => h0
  | j + 1 => blockW b (64 * j) (blocksW b j)
def byte4 (x : UInt32) : List UInt8 := [UInt8.ofNat (x.toNat / 16777216), UInt8.ofNat (x.toNat / 65536), UInt8.ofNat (x.toNat / 256), UInt8.ofNat x.toNat]
def outL (s : S8) : List UInt8 := byte4 s.a ++ byte4 s.b ++ byte4 s.c ++ byte4 s.d ++ byte4 s.e ++ byte4 s.f ++ byte4 s.g ++ byte4 s.h
/-- how many zeros follow -/
def zerosN (n : Nat) : Nat := (119 - n % 64) % 64
def lenL (n : Nat) : List UInt8 := (List.range 8).map fun i => UInt8.ofNat (8 * n / 256 ^ (7 - i))
def padL (l : List UInt8) : List UInt8 := l ++ [128] ++ List.replicate (zerosN l.length) 0 ++ lenL l.length
theorem padL_len (l : List UInt8) : (padL l).length = l.length + 1 + zerosN l.length + 8 ∧ (padL l).length % 64 = 0 := by
  have h : (padL l).length = l.length + 1 + zerosN l.length + 8 := by simp [padL, lenL]; omega
  refine ⟨h, ?_⟩
  rw [h]; unfold zerosN; omega
def sumL (l : List UInt8) : List UInt8 := outL (blocksW (padL l) ((padL l).length / 64))
theorem outL_len (s : S8) : (outL s).length = 32 := rfl
end Go.Proofs.YtdiljjoaihfloaaDoor
namespace Go.Proofs.YtdiljjoaihfloaaDoor
open Go.RowKit

/-- a callee that leaves the world alone, in a second quiet region -/
theorem quiet_more {P : Program} {f : FuncId} {args : Array Value} {w : World} {a n : Nat} {v : Value} (h : Calls P f args (w.drewN (a + n)) fun e w' => e = .returned v ∧ w' = w.drewN (a + n)) :
    Calls P f args (w.drewN (a + n)) fun e w'' => e = .returned v ∧ ∃ m, w'' = w.drewN (a + m) := h.mono fun _ _ ⟨he, hm⟩ => ⟨he, n, hm⟩
theorem rotr_int (x : UInt32) (n : Nat) : bits .or .u32 ((x.toNat : Int) / 2 ^ n) ((x.toNat : Int) * 2 ^ (32 - n) % 4294967296) = ((rotr x n).toNat : Int) := by
  have h1 : (x.toNat : Int) / 2 ^ n = ((x.toNat / 2 ^ n : Nat) : Int) := by rw [Int.natCast_ediv, Int.natCast_pow]; rfl
  have h2 : (x.toNat : Int) * 2 ^ (32 - n) % 4294967296 = ((x.toNat * 2 ^ (32 - n) % 4294967296 : Nat) : Int) := by rw [Int.natCast_emod, Int.natCast_mul, Int.natCast_pow]; rfl
  rw [rotr_nat, h1, h2]
  exact bits_word_or _ _ (Nat.lt_of_le_of_lt (Nat.div_le_self _ _) (w_lt x)) (Nat.mod_lt _ (by decide))
theorem turn_any (x : UInt32) (n : Nat) (hn : n ≤ 32) (w : World) :
    Calls Tryd.prog 21 #[.int .u32 (x.toNat : Int), .int .u64 (n : Int)] w fun e w' => e = .returned (.int .u32 ((rotr x n).toNat : Int)) ∧ w = w' := by
  have hx := w_lt x
  go_enter Tryd.func21, Tryd.ntmps21
  go_wp2
  go_ret
  exact ⟨ret_int (rotr_int x n), rfl⟩
theorem turn_quiet (x : UInt32) (n : Nat) (hn : n ≤ 32) (w : World) :
    Calls Tryd.prog 21 #[.int .u32 (x.toNat : Int), .int .u64 (n : Int)] w fun e w' => e = .returned (.int .u32 ((rotr x n).toNat : Int)) ∧ w' = w := (turn_any x n hn w).mono fun _ _ h => ⟨h.1, h.2.symm⟩
theorem turn_q (x : UInt32) (n : Int) (h0 : 0 ≤ n) (hn : n ≤ 32) (w : World) :
    Calls Tryd.prog 21 #[.int .u32 (x.toNat : Int), .int .u64 n] w fun e w' => e = .returned (.int .u32 ((rotr x n.toNat).toNat : Int)) ∧ w' = w := by
  have h : (n.toNat : Int) = n := by omega
  have := turn_quiet x n.toNat (by omega) w
  rw [h] at this; exact this
end Go.Proofs.YtdiljjoaihfloaaDoor
namespace Go.Proofs.YtdiljjoaihfloaaDoor
open Go.RowKit

theorem run_alloc_new {P : Program} (w : World) (t : TypeId) (z : Value) (hz : ∀ w, (zeroValue t).run P w = .ok z w) :
    (Instr.alloc t true (.tuple #[])).run P w = .ok (.pointer (some ⟨w.heap.size, 0, none⟩)) (w.alloc (.cells z.cells t)) := by
  simp [Instr.alloc, Sem.run_bind, hz, newVar, newRow]
theorem wp_alloc_var {P : Program} {o : Oper} {a : Act} {w : World} {K : Act → World → Prop} {Q : Exit → Act → World → Prop} (t : TypeId) (z : Value) (ho : o.op = .alloc t)
    (hz : ∀ w, (zeroValue t).run P w = .ok z w) (h : K (a.put o.dst (.pointer (some ⟨w.heap.size, 0, none⟩))) (w.alloc (.cells z.cells t))) : o.wp P a w K Q := by
  unfold Oper.wp execOp
  simp only [ho, Sem.run_bind, run_alloc_new w t z hz, Result.andThen_ok]
  exact h
theorem wp_store_new {P : Program} {o : Oper} {a : Act} {w : World} {K : Act → World → Prop} {Q : Exit → Act → World → Prop} (t : TypeId) (p x : Operand) (c c' : Array Value) (ho : o.op = .store t p x)
    (hp : a.eval p = .pointer (some ⟨w.heap.size, 0, none⟩)) (hx : a.eval x = .agg c') (hi : (P.info? t).map (·.size) = some c'.size) (hs : c.size = c'.size) (h1 : c'.all (·.oneCell') = true)
    (h : K (a.put o.dst undef) (w.alloc (.cells c' t))) : o.wp P a (w.alloc (.cells c t)) K Q := by
  unfold Oper.wp execOp
  simp only [ho, hp, hx, Sem.run_bind, run_storeAt_new w t c c' hi hs h1, Result.andThen_ok]
  exact h
theorem wp_build_is {P : Program} {o : Oper} {a : Act} {w : World} {K : Act → World → Prop} {Q : Exit → Act → World → Prop} (t : TypeId) (parts : Array (Nat × Operand)) (cells : Array Value) (ho : o.op = .build t parts)
    (hc : P.built t (parts.map fun (i, x) => (i, a.eval x)).toList = some cells) (h : K (a.put o.dst (.agg cells)) w) : o.wp P a w K Q :=
  wp_build t parts ho (by rw [hc]; rfl) (by rw [hc]; exact h)
theorem wpList_alloc_var {P : Program} (t : TypeId) (z : Value) {ops : Array Oper} {rest : List Oper} {d : Option Tmp} {ty : TypeId} {pos : String} {after : Array Edge} {a : Act} {w : World} {Q : Exit → Act → World → Prop}
    (hz : ∀ w, (zeroValue t).run P w = .ok z w) (h : wpList P ops Q rest (a.put d (.pointer (some ⟨w.heap.size, 0, none⟩))) (w.alloc (.cells z.cells t))) :
    wpList P ops Q ({ dst := d, op := .alloc t, type := ty, pos := pos, after := after, guard := none } :: rest) a w :=
  wpList_plain rfl fun _ hK => wp_alloc_var t z rfl hz (hK _ _ h)
theorem wpList_store_new {P : Program} {ops : Array Oper} {rest : List Oper} {o : Oper} {a : Act} {w : World} {Q : Exit → Act → World → Prop} (hgd : o.guard = none) (t : TypeId) (p x : Operand) (c c' : Array Value) (ho : o.op = .store t p x)
    (hp : a.eval p = .pointer (some ⟨w.heap.size, 0, none⟩)) (hx : a.eval x = .agg c') (hi : (P.info? t).map (·.size) = some c'.size) (hs : c.size = c'.size) (h1 : c'.all (·.oneCell') = true)
    (h : wpList P ops Q rest (a.put o.dst undef) (w.alloc (.cells c' t))) : wpList P ops Q (o :: rest) a (w.alloc (.cells c t)) :=
  wpList_plain hgd fun _ hK => wp_store_new t p x c c' ho hp hx hi hs h1 (hK _ _ h)
theorem arr_store (w : World) (C : Array Value) (t : TypeId) (q k : Nat) (v : Value) : (((w.alloc (.cells C t)).drewN q).setCell ⟨w.heap.size, k, none⟩ v) = (w.alloc (.cells (C.setIfInBounds k v) t)).drewN q := by
  rw [setCell_eq_setRow (((w.alloc (.cells C t)).drewN q)) w.heap.size k C t (0, 0) v (heap_alloc_last w _)]
  have := World.setRow_alloc_new w C (C.setIfInBounds k v) t
  rw [← this]; rfl
/-- a result that lies in memory -/
theorem results_cell {P : Program} {fn : Func} {t : Tmp} {ty : TypeId} (h : fn.results = #[.cell t ty]) (tmps : Array Value) (w : World) (b : Nat) (cs : List Value) (d : TypeDesc) (hp : tmps.getD t undef = .pointer (some ⟨b, 0, none⟩)) (hc : w.rangeAt b 0 cs)
    (hu : P.underlying ty = some d) (hd : d.isRow = true) (hi : (P.info? ty).map (·.size) = some cs.length) : (results fn tmps).run P w = .ok (.agg cs.toArray) w := by
  have hl := run_loadVar_mid (P := P) w b 0 ty cs d hc hu hd hi
  simp only [Array.getD_eq_getD_getElem?] at hp
  simp [results, h, hp, hl, asAddr]
theorem range_new (w : World) (cs : List Value) (t : TypeId) : (w.alloc (.cells cs.toArray t)).rangeAt w.heap.size 0 cs := fun j v hv => by
  show (match (w.alloc _).heap[w.heap.size]? with | some (.cells c _ _) => c[0 + j]? | _ => none) = _
  rw [heap_alloc_last]; simpa using hv
end Go.Proofs.YtdiljjoaihfloaaDoor
