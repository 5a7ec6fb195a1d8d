/- Texts merged by program, in build order: CliVals, B64, Leaf, Parts. -/
import Derived.Test.YtlcpehmdhnakpaaDoorG01
import Derived.Lib.Bytealg
set_option linter.unusedVariables false
set_option linter.unusedSimpArgs false
namespace Go.Proofs.YtlcpehmdhnakpaaDoor
open Go.RowKit
set_option linter.unusedVariables false
set_option linter.unusedSimpArgs false

/-- api.Client -/
structure CliP where
  cID : List UInt8
  cSecret : List UInt8
  cReds : List (List UInt8)
/-- a slice that reads as these clients -/
def RdCl (w : World) (v : Value) (l : List CliP) : Prop :=
  ∃ A c, v = .slice A l.length c ∧ l.length ≤ c ∧ ∀ k r, l[k]? = some r → ∃ g o u, A = some ⟨g, o, none⟩ ∧ g < w.heap.size ∧ w.cell? ⟨g, o + k * 3, none⟩ = some (tv r.cID) ∧ w.cell? ⟨g, o + k * 3 + 1, none⟩ = some (tv r.cSecret) ∧ w.cell? ⟨g, o + k * 3 + 2, none⟩ = some u ∧ RdT w u r.cReds
theorem RdCl.below {w w' : World} {v : Value} {l : List CliP} (h : RdCl w v l) (hb : Below w.heap.size w w') : RdCl w' v l := by
  obtain ⟨A, c, rfl, hc, h⟩ := h
  refine ⟨A, c, rfl, hc, fun k r hk => ?_⟩
  obtain ⟨g, o, u, rfl, hg, h1, h2, h3, h4⟩ := h k r hk
  have he := hb.block g hg
  exact ⟨g, o, u, rfl, Nat.lt_of_lt_of_le hg hb.size, (World.cell?_of_block he).trans h1, (World.cell?_of_block he).trans h2, (World.cell?_of_block he).trans h3, h4.below hb⟩
theorem RdCl.at {w : World} {A : Option Addr} {c n : Nat} {l : List CliP} (h : RdCl w (.slice A n c) l) (k : Nat) (hk : k < l.length) : ∃ g o u, A = some ⟨g, o, none⟩ ∧ g < w.heap.size ∧ w.cell? ⟨g, o + k * 3, none⟩ = some (tv l[k].cID) ∧ w.cell? ⟨g, o + k * 3 + 1, none⟩ = some (tv l[k].cSecret) ∧ w.cell? ⟨g, o + k * 3 + 2, none⟩ = some u ∧ RdT w u l[k].cReds := by
  obtain ⟨A', c', e, hc, hA⟩ := h
  cases e
  exact hA k _ (List.getElem?_eq_getElem hk)
/-- a slice that reads as these connectors -/
def RdCn (w : World) (v : Value) (l : List ConnP) : Prop :=
  ∃ A c, v = .slice A l.length c ∧ l.length ≤ c ∧ ∀ k r, l[k]? = some r → ∃ g o, A = some ⟨g, o, none⟩ ∧ g < w.heap.size ∧ w.cell? ⟨g, o + k * 7, none⟩ = some (tv r.fID) ∧ w.cell? ⟨g, o + k * 7 + 1, none⟩ = some (tv r.fIssuer) ∧ w.cell? ⟨g, o + k * 7 + 2, none⟩ = some (tv r.fClient) ∧
    w.cell? ⟨g, o + k * 7 + 3, none⟩ = some (tv r.fAuth) ∧ w.cell? ⟨g, o + k * 7 + 4, none⟩ = some (tv r.fSecret) ∧ w.cell? ⟨g, o + k * 7 + 5, none⟩ = some (.bool r.fOpen) ∧ w.cell? ⟨g, o + k * 7 + 6, none⟩ = some (tv r.fRules)
theorem RdCn.below {w w' : World} {v : Value} {l : List ConnP} (h : RdCn w v l) (hb : Below w.heap.size w w') : RdCn w' v l := by
  obtain ⟨A, c, rfl, hc, h⟩ := h
  refine ⟨A, c, rfl, hc, fun k r hk => ?_⟩
  obtain ⟨g, o, rfl, hg, h0, h1, h2, h3, h4, h5, h6⟩ := h k r hk
  have he := hb.block g hg
  exact ⟨g, o, rfl, Nat.lt_of_lt_of_le hg hb.size, (World.cell?_of_block he).trans h0, (World.cell?_of_block he).trans h1, (World.cell?_of_block he).trans h2, (World.cell?_of_block he).trans h3, (World.cell?_of_block he).trans h4, (World.cell?_of_block he).trans h5, (World.cell?_of_block he).trans h6⟩
theorem RdCn.at {w : World} {A : Option Addr} {c n : Nat} {l : List ConnP} (h : RdCn w (.slice A n c) l) (k : Nat) (hk : k < l.length) : ∃ g o, A = some ⟨g, o, none⟩ ∧ g < w.heap.size ∧ w.cell? ⟨g, o + k * 7, none⟩ = some (tv l[k].fID) ∧ w.cell? ⟨g, o + k * 7 + 1, none⟩ = some (tv l[k].fIssuer) ∧ w.cell? ⟨g, o + k * 7 + 2, none⟩ = some (tv l[k].fClient) ∧
    w.cell? ⟨g, o + k * 7 + 3, none⟩ = some (tv l[k].fAuth) ∧ w.cell? ⟨g, o + k * 7 + 4, none⟩ = some (tv l[k].fSecret) ∧ w.cell? ⟨g, o + k * 7 + 5, none⟩ = some (.bool l[k].fOpen) ∧ w.cell? ⟨g, o + k * 7 + 6, none⟩ = some (tv l[k].fRules) := by
  obtain ⟨A', c', e, hc, hA⟩ := h
  cases e
  exact hA k _ (List.getElem?_eq_getElem hk)
/-- api.Config -/
structure CfgP where
  gIssuer : List UInt8
  gKeyID : List UInt8
  gKeySecret : List UInt8
  gClients : List CliP
  gConns : List ConnP
def CfgIs (w : World) (x : CfgP) (A : Option Addr) (n c : Nat) (A' : Option Addr) (n' c' : Nat) : Prop := n = x.gClients.length ∧ n' = x.gConns.length ∧ RdCl w (.slice A n c) x.gClients ∧ RdCn w (.slice A' n' c') x.gConns
theorem CfgIs.below {w w' : World} {x : CfgP} {A A' : Option Addr} {n c n' c' : Nat} (h : CfgIs w x A n c A' n' c') (hb : Below w.heap.size w w') : CfgIs w' x A n c A' n' c' := ⟨h.1, h.2.1, h.2.2.1.below hb, h.2.2.2.below hb⟩
def CfgP.val (x : CfgP) (A : Option Addr) (n c : Nat) (A' : Option Addr) (n' c' : Nat) : Value := .agg #[tv x.gIssuer, tv x.gKeyID, tv x.gKeySecret, .slice A n c, .slice A' n' c']

/-- the bounds of a client's texts -/
def CliP.fit (r : CliP) : Prop := r.cID.length ≤ 200000000000000 ∧ r.cSecret.length ≤ 200000000000000 ∧ r.cReds.length * 16 ≤ 140737488355328 ∧ ∀ x ∈ r.cReds, x.length ≤ 200000000000000
/-- the bounds of a connector's texts -/
def ConnP.fit (r : ConnP) : Prop := r.fID.length ≤ 200000000000000 ∧ r.fIssuer.length ≤ 200000000000000 ∧ r.fClient.length ≤ 200000000000000 ∧ r.fAuth.length ≤ 200000000000000 ∧ r.fSecret.length ≤ 200000000000000 ∧ r.fRules.length ≤ 200000000000000
/-- the bounds of a config -/
def CfgP.fit (x : CfgP) : Prop := x.gIssuer.length ≤ 200000000000000 ∧ x.gKeyID.length ≤ 200000000000000 ∧ x.gKeySecret.length ≤ 200000000000000 ∧ x.gClients.length ≤ 200000000000000 ∧ (∀ r ∈ x.gClients, r.fit) ∧ x.gConns.length ≤ 200000000000000 ∧ ∀ r ∈ x.gConns, r.fit
/-- a config that is not too large, as the laws ask it -/
def CfgP.few (x : CfgP) : Prop := x.gIssuer.length ≤ 5000 ∧ x.gClients.length ≤ 20 ∧ x.gConns.length ≤ 20 ∧ (∀ k (hk : k < x.gClients.length), (x.gClients[k]).cReds.length ≤ 100) ∧ ∀ k (hk : k < x.gConns.length), (x.gConns[k]).fRules.length ≤ 5000
def CfgP.fitS (x : CfgP) : Prop := x.fit ∧ x.few

/-- what the chapter says -/
def findCl (l : List CliP) (id : List UInt8) : Option CliP := l.find? (fun x => decide (x.cID = id))
def findCn (l : List ConnP) (id : List UInt8) : Option ConnP := l.find? (fun x => decide (x.fID = id))
def authP (x : CfgP) (id sec : List UInt8) : Bool := match findCl x.gClients id with
  | some a => decide (a.cSecret ≠ []) && decide (a.cSecret = sec)
  | none => false
def redirP (x : CliP) (s : List UInt8) : Bool := x.cReds.any (fun y => decide (y = s))
theorem find_none {α : Type} {p : α → Bool} {l : List α} {k : Nat} (h : ∀ j (hj : j < l.length), j < k → p l[j] = false) (hk : l.length ≤ k) : l.find? p = none := by
  rw [List.find?_eq_none]
  intro x hx
  obtain ⟨j, hj, rfl⟩ := List.mem_iff_getElem.1 hx
  rw [h j hj (by omega)]; decide
theorem find_some {α : Type} {p : α → Bool} {l : List α} {k : Nat} (hk : k < l.length) (h : ∀ j (hj : j < l.length), j < k → p l[j] = false) (hp : p l[k] = true) : l.find? p = some l[k] := by
  rw [List.find?_eq_some_iff_getElem]
  exact ⟨hp, k, hk, rfl, fun j hj => by rw [h j (by omega) hj]; rfl⟩
end Go.Proofs.YtlcpehmdhnakpaaDoor
namespace Go.Proofs.YtlcpehmdhnakpaaDoor

def ltrs : Array UInt8 := #[65, 66, 67, 68, 69, 70, 71, 72, 73, 74, 75, 76, 77, 78, 79, 80, 81, 82, 83, 84, 85, 86, 87, 88, 89, 90, 97, 98, 99, 100, 101, 102, 103, 104, 105, 106, 107, 108, 109, 110, 111, 112, 113, 114, 115, 116, 117, 118, 119, 120, 121, 122, 48, 49, 50, 51, 52, 53, 54, 55, 56, 57, 45, 95]
def ltr (n : Nat) : UInt8 := ltrs.getD n 0
theorem ltr_at {n : Nat} (h : n < (ByteArray.mk ltrs).size) : (ByteArray.mk ltrs)[n] = ltr n := by
  have h' : n < ltrs.size := h
  simp [ltr, h']; rfl

/-- the letter's number; -1: none -/
def ix (c : UInt8) : Int := Lib.indexByte ltrs.toList c

theorem ix_all : ∀ n : Nat, n < 256 → (ix (UInt8.ofNat n) = -1 ∨ (0 ≤ ix (UInt8.ofNat n) ∧ ix (UInt8.ofNat n) < 64 ∧ ltr (ix (UInt8.ofNat n)).toNat = UInt8.ofNat n)) := by decide +kernel
theorem ix_cases (c : UInt8) : ix c = -1 ∨ (0 ≤ ix c ∧ ix c < 64 ∧ ltr (ix c).toNat = c) := by
  have := ix_all c.toNat c.toNat_lt
  rwa [UInt8.ofNat_toNat] at this
theorem ix_ltr : ∀ n : Nat, n < 64 → ix (ltr n) = n := by decide +kernel
theorem ltr_inj {a b : Nat} (ha : a < 64) (hb : b < 64) (h : ltr a = ltr b) : a = b := by
  have h1 := ix_ltr a ha
  have h2 := ix_ltr b hb
  rw [h, h2] at h1; omega

/-- the last of the first k letters that is c -/
def ixTo (c : UInt8) : Nat → Int
  | 0 => -1
  | k + 1 => if (ltr k).toNat = c.toNat then k else ixTo c k
theorem ixTo_all : ∀ n : Nat, n < 256 → ixTo (UInt8.ofNat n) 64 = ix (UInt8.ofNat n) := by decide +kernel
theorem ixTo_ix (c : UInt8) : ixTo c 64 = ix c := by
  have := ixTo_all c.toNat c.toNat_lt
  rwa [UInt8.ofNat_toNat] at this

def chunk (v : Nat) : List UInt8 := [ltr (v / 262144), ltr (v / 4096 % 64), ltr (v / 64 % 64), ltr (v % 64)]
/-- base64url -/
def enc : List UInt8 → List UInt8
  | [] => []
  | [a] => (chunk (a.toNat * 65536)).take 2
  | [a, b] => (chunk (a.toNat * 65536 + b.toNat * 256)).take 3
  | a :: b :: c :: r => chunk (a.toNat * 65536 + b.toNat * 256 + c.toNat) ++ enc r

theorem enc_len : ∀ l : List UInt8, (enc l).length = (4 * l.length + 2) / 3
  | [] => rfl
  | [a] => by simp [enc, chunk]
  | [a, b] => by simp [enc, chunk]
  | a :: b :: c :: r => by
    have := enc_len r
    simp [enc, chunk]; omega

/-! ## the program's way: bit by bit, in a word of 32 bits -/
def push8 (H : Nat) (b : UInt8) : Nat := H * 256 % 4294967296 + b.toNat
def encS : Nat → Nat → List UInt8 → List UInt8
  | H, bits, [] => if bits = 0 then [] else if bits = 2 then [ltr (H * 16 % 4294967296 % 64)] else [ltr (H * 4 % 4294967296 % 64)]
  | H, bits, b :: r => if bits = 0 then ltr (push8 H b / 4 % 64) :: encS (push8 H b) 2 r else if bits = 2 then ltr (push8 H b / 16 % 64) :: encS (push8 H b) 4 r
    else ltr (push8 H b / 64 % 64) :: ltr (push8 H b % 64) :: encS (push8 H b) 0 r

theorem cons_ltr {a b : Nat} {r r' : List UInt8} (h : a = b) (h' : r = r') : ltr a :: r = ltr b :: r' := by rw [h, h']

theorem encS_0 (H : Nat) (b : UInt8) (r : List UInt8) : encS H 0 (b :: r) = ltr (push8 H b / 4 % 64) :: encS (push8 H b) 2 r := rfl
theorem encS_2 (H : Nat) (b : UInt8) (r : List UInt8) : encS H 2 (b :: r) = ltr (push8 H b / 16 % 64) :: encS (push8 H b) 4 r := rfl
theorem encS_4 (H : Nat) (b : UInt8) (r : List UInt8) : encS H 4 (b :: r) = ltr (push8 H b / 64 % 64) :: ltr (push8 H b % 64) :: encS (push8 H b) 0 r := rfl
theorem encS_end2 (H : Nat) : encS H 2 [] = [ltr (H * 16 % 4294967296 % 64)] := rfl
theorem encS_end4 (H : Nat) : encS H 4 [] = [ltr (H * 4 % 4294967296 % 64)] := rfl

theorem encS_enc : ∀ (l : List UInt8) (H : Nat), encS H 0 l = enc l
  | [], H => rfl
  | [a], H => by
    have ha := a.toNat_lt
    rw [encS_0, encS_end2]
    show _ = [ltr (a.toNat * 65536 / 262144), ltr (a.toNat * 65536 / 4096 % 64)]
    unfold push8
    exact cons_ltr (by omega) (cons_ltr (by omega) rfl)
  | [a, b], H => by
    have ha := a.toNat_lt
    have hb := b.toNat_lt
    rw [encS_0, encS_2, encS_end4]
    show _ = [ltr ((a.toNat * 65536 + b.toNat * 256) / 262144), ltr ((a.toNat * 65536 + b.toNat * 256) / 4096 % 64), ltr ((a.toNat * 65536 + b.toNat * 256) / 64 % 64)]
    unfold push8
    exact cons_ltr (by omega) (cons_ltr (by omega) (cons_ltr (by omega) rfl))
  | a :: b :: c :: r, H => by
    have ha := a.toNat_lt
    have hb := b.toNat_lt
    have hc := c.toNat_lt
    rw [encS_0, encS_2, encS_4, encS_enc r]
    show _ = ltr ((a.toNat * 65536 + b.toNat * 256 + c.toNat) / 262144) :: ltr ((a.toNat * 65536 + b.toNat * 256 + c.toNat) / 4096 % 64) :: ltr ((a.toNat * 65536 + b.toNat * 256 + c.toNat) / 64 % 64) :: ltr ((a.toNat * 65536 + b.toNat * 256 + c.toNat) % 64) :: enc r
    unfold push8
    exact cons_ltr (by omega) (cons_ltr (by omega) (cons_ltr (by omega) (cons_ltr (by omega) rfl)))

/-! ## reading -/
def push6 (H : Nat) (d : Nat) : Nat := H * 64 % 4294967296 + d
/-- the program's way -/
def decS : Nat → Nat → List UInt8 → Option (List UInt8)
  | H, bits, [] => if bits < 6 ∧ H % 2 ^ bits = 0 then some [] else none
  | H, bits, c :: r => if ix c < 0 then none else
    if bits < 2 then decS (push6 H (ix c).toNat) (bits + 6) r
    else (decS (push6 H (ix c).toNat) (bits - 2) r).map (UInt8.ofNat (push6 H (ix c).toNat / 2 ^ (bits - 2)) :: ·)
/-- the reference's way -/
def unS : Nat → Nat → List UInt8 → Option (List UInt8)
  | _, _, [] => some []
  | v, n, c :: r => if ix c < 0 then none else
    if n < 2 then unS (v * 64 + (ix c).toNat) (n + 6) r
    else (unS ((v * 64 + (ix c).toNat) % 2 ^ (n - 2)) (n - 2) r).map (UInt8.ofNat ((v * 64 + (ix c).toNat) / 2 ^ (n - 2)) :: ·)
/-- what a text is of -/
def dec (l : List UInt8) : Option (List UInt8) := (unS 0 0 l).bind fun o => if enc o = l then some o else none

/-- a text of letters is its numbers' -/
def ds (l : List Nat) : List UInt8 := l.map ltr
theorem letters (l : List UInt8) : (∃ l' : List Nat, l = ds l' ∧ ∀ d ∈ l', d < 64) ∨ ∃ p c r, l = ds p ++ c :: r ∧ (∀ d ∈ p, d < 64) ∧ ix c = -1 := by
  induction l with
  | nil => exact .inl ⟨[], rfl, by simp⟩
  | cons c l ih =>
    rcases ix_cases c with h | ⟨h0, h1, h2⟩
    · exact .inr ⟨[], c, l, rfl, by simp, h⟩
    · rcases ih with ⟨l', e, hl⟩ | ⟨p, c', r, e, hp, hc⟩
      · exact .inl ⟨(ix c).toNat :: l', by rw [e]; simp [ds, h2], by intro d hd; rcases List.mem_cons.1 hd with rfl | hd; omega; exact hl d hd⟩
      · exact .inr ⟨(ix c).toNat :: p, c', r, by rw [e]; simp [ds, h2], by intro d hd; rcases List.mem_cons.1 hd with rfl | hd; omega; exact hp d hd, hc⟩

theorem unS_none (p : List Nat) (c : UInt8) (r : List UInt8) (hp : ∀ d ∈ p, d < 64) (hc : ix c = -1) : ∀ v n, unS v n (ds p ++ c :: r) = none := by
  induction p with
  | nil => intro v n; show unS v n (c :: r) = none; rw [unS, if_pos (by omega)]
  | cons d p ih =>
    intro v n
    have ih' := ih fun d hd => hp d (List.mem_cons_of_mem _ hd)
    show unS v n (ltr d :: (ds p ++ c :: r)) = none
    rw [unS, ih', ih']; simp
theorem decS_none (p : List Nat) (c : UInt8) (r : List UInt8) (hp : ∀ d ∈ p, d < 64) (hc : ix c = -1) : ∀ v n, decS v n (ds p ++ c :: r) = none := by
  induction p with
  | nil => intro v n; show decS v n (c :: r) = none; rw [decS, if_pos (by omega)]
  | cons d p ih =>
    intro v n
    have ih' := ih fun d hd => hp d (List.mem_cons_of_mem _ hd)
    show decS v n (ltr d :: (ds p ++ c :: r)) = none
    rw [decS, ih', ih']; simp

theorem decS_ltr (H bits d : Nat) (hd : d < 64) (r : List UInt8) : decS H bits (ltr d :: r) = if bits < 2 then decS (push6 H d) (bits + 6) r else (decS (push6 H d) (bits - 2) r).map (UInt8.ofNat (push6 H d / 2 ^ (bits - 2)) :: ·) := by
  rw [decS, ix_ltr d hd, if_neg (by omega)]; rfl
theorem unS_ltr (v n d : Nat) (hd : d < 64) (r : List UInt8) : unS v n (ltr d :: r) = if n < 2 then unS (v * 64 + d) (n + 6) r else (unS ((v * 64 + d) % 2 ^ (n - 2)) (n - 2) r).map (UInt8.ofNat ((v * 64 + d) / 2 ^ (n - 2)) :: ·) := by
  rw [unS, ix_ltr d hd, if_neg (by omega)]; rfl
theorem byte_eq {a b : Nat} (h : a % 256 = b % 256) : UInt8.ofNat a = UInt8.ofNat b := by
  apply UInt8.toNat_inj.1; rw [UInt8.toNat_ofNat', UInt8.toNat_ofNat']; exact h

theorem toNat_byte (a : Nat) : (UInt8.ofNat a).toNat = a % 256 := UInt8.toNat_ofNat'

theorem dec_ds : ∀ (l : List Nat), (∀ d ∈ l, d < 64) → ∀ H, decS H 0 (ds l) = dec (ds l)
  | [], _, H => by simp [ds, decS, dec, unS, enc]; omega
  | [a], h, H => by
    have ha := h a (by simp)
    show decS H 0 [ltr a] = dec [ltr a]
    rw [decS_ltr _ _ _ ha, dec, unS_ltr _ _ _ ha]
    simp [decS, unS, enc]
  | [a, b], h, H => by
    have ha := h a (by simp)
    have hb := h b (by simp)
    show decS H 0 [ltr a, ltr b] = dec [ltr a, ltr b]
    have e1 : decS H 0 [ltr a, ltr b] = if b % 16 = 0 then some [UInt8.ofNat ((a * 64 + b) / 16)] else none := by
      rw [decS_ltr _ _ _ ha, if_pos (by decide), decS_ltr _ _ _ hb, if_neg (by decide), decS]
      have : push6 (push6 H a) b % 2 ^ (0 + 6 - 2) = b % 16 := by unfold push6; omega
      rw [this]
      have hy : UInt8.ofNat (push6 (push6 H a) b / 2 ^ (0 + 6 - 2)) = UInt8.ofNat ((a * 64 + b) / 16) := byte_eq (by unfold push6; omega)
      rw [hy]
      by_cases hz : b % 16 = 0 <;> simp [hz]
    have e2 : unS 0 0 [ltr a, ltr b] = some [UInt8.ofNat ((a * 64 + b) / 16)] := by
      rw [unS_ltr _ _ _ ha, if_pos (by decide), unS_ltr _ _ _ hb, if_neg (by decide), unS]; simp
    rw [e1, dec, e2, Option.bind_some]
    have e3 : enc [UInt8.ofNat ((a * 64 + b) / 16)] = [ltr a, ltr (b / 16 * 16)] := by
      show [ltr ((UInt8.ofNat ((a * 64 + b) / 16)).toNat * 65536 / 262144), ltr ((UInt8.ofNat ((a * 64 + b) / 16)).toNat * 65536 / 4096 % 64)] = _
      rw [toNat_byte]
      exact cons_ltr (by omega) (cons_ltr (by omega) rfl)
    rw [e3]
    by_cases hz : b % 16 = 0
    · rw [if_pos hz, if_pos (cons_ltr rfl (cons_ltr (by omega) rfl))]
    · rw [if_neg hz, if_neg]
      intro he; injection he with _ he; injection he with he _
      have := ltr_inj (by omega) hb he; omega
  | [a, b, c], h, H => by
    have ha := h a (by simp)
    have hb := h b (by simp)
    have hc := h c (by simp)
    show decS H 0 [ltr a, ltr b, ltr c] = dec [ltr a, ltr b, ltr c]
    have e1 : decS H 0 [ltr a, ltr b, ltr c] = if c % 4 = 0 then some [UInt8.ofNat ((a * 64 + b) / 16), UInt8.ofNat ((b * 64 + c) / 4)] else none := by
      rw [decS_ltr _ _ _ ha, if_pos (by decide), decS_ltr _ _ _ hb, if_neg (by decide), decS_ltr _ _ _ hc, if_neg (by decide), decS]
      have : push6 (push6 (push6 H a) b) c % 2 ^ (0 + 6 - 2 - 2) = c % 4 := by unfold push6; omega
      rw [this]
      have hy : UInt8.ofNat (push6 (push6 H a) b / 2 ^ (0 + 6 - 2)) = UInt8.ofNat ((a * 64 + b) / 16) := byte_eq (by unfold push6; omega)
      have hy' : UInt8.ofNat (push6 (push6 (push6 H a) b) c / 2 ^ (0 + 6 - 2 - 2)) = UInt8.ofNat ((b * 64 + c) / 4) := byte_eq (by unfold push6; omega)
      rw [hy, hy']
      by_cases hz : c % 4 = 0 <;> simp [hz]
    have e2 : unS 0 0 [ltr a, ltr b, ltr c] = some [UInt8.ofNat ((a * 64 + b) / 16), UInt8.ofNat ((b * 64 + c) / 4)] := by
      rw [unS_ltr _ _ _ ha, if_pos (by decide), unS_ltr _ _ _ hb, if_neg (by decide), unS_ltr _ _ _ hc, if_neg (by decide), unS]
      have hy : UInt8.ofNat (((0 * 64 + a) * 64 + b) / 2 ^ (0 + 6 - 2)) = UInt8.ofNat ((a * 64 + b) / 16) := byte_eq (by omega)
      have hy' : UInt8.ofNat ((((0 * 64 + a) * 64 + b) % 2 ^ (0 + 6 - 2) * 64 + c) / 2 ^ (0 + 6 - 2 - 2)) = UInt8.ofNat ((b * 64 + c) / 4) := byte_eq (by omega)
      rw [hy, hy']; rfl
    rw [e1, dec, e2, Option.bind_some]
    have e3 : enc [UInt8.ofNat ((a * 64 + b) / 16), UInt8.ofNat ((b * 64 + c) / 4)] = [ltr a, ltr b, ltr (c / 4 * 4)] := by
      show [ltr (((UInt8.ofNat ((a * 64 + b) / 16)).toNat * 65536 + (UInt8.ofNat ((b * 64 + c) / 4)).toNat * 256) / 262144), ltr (((UInt8.ofNat ((a * 64 + b) / 16)).toNat * 65536 + (UInt8.ofNat ((b * 64 + c) / 4)).toNat * 256) / 4096 % 64), ltr (((UInt8.ofNat ((a * 64 + b) / 16)).toNat * 65536 + (UInt8.ofNat ((b * 64 + c) / 4)).toNat * 256) / 64 % 64)] = _
      rw [toNat_byte, toNat_byte]
      exact cons_ltr (by omega) (cons_ltr (by omega) (cons_ltr (by omega) rfl))
    rw [e3]
    by_cases hz : c % 4 = 0
    · rw [if_pos hz, if_pos (cons_ltr rfl (cons_ltr rfl (cons_ltr (by omega) rfl)))]
    · rw [if_neg hz, if_neg]
      intro he; injection he with _ he; injection he with _ he; injection he with he _
      have := ltr_inj (by omega) hc he; omega
  | a :: b :: c :: d :: r, h, H => by
    have ha := h a (by simp)
    have hb := h b (by simp)
    have hc := h c (by simp)
    have hd := h d (by simp)
    have ih := dec_ds r (fun x hx => h x (by simp [hx]))
    show decS H 0 (ltr a :: ltr b :: ltr c :: ltr d :: ds r) = dec (ltr a :: ltr b :: ltr c :: ltr d :: ds r)
    have e1 : decS H 0 (ltr a :: ltr b :: ltr c :: ltr d :: ds r) = (dec (ds r)).map ([UInt8.ofNat ((a * 64 + b) / 16), UInt8.ofNat ((b * 64 + c) / 4), UInt8.ofNat (c * 64 + d)] ++ ·) := by
      rw [decS_ltr _ _ _ ha, if_pos (by decide), decS_ltr _ _ _ hb, if_neg (by decide), decS_ltr _ _ _ hc, if_neg (by decide), decS_ltr _ _ _ hd, if_neg (by decide)]
      have hy : UInt8.ofNat (push6 (push6 H a) b / 2 ^ (0 + 6 - 2)) = UInt8.ofNat ((a * 64 + b) / 16) := byte_eq (by unfold push6; omega)
      have hy' : UInt8.ofNat (push6 (push6 (push6 H a) b) c / 2 ^ (0 + 6 - 2 - 2)) = UInt8.ofNat ((b * 64 + c) / 4) := byte_eq (by unfold push6; omega)
      have hy'' : UInt8.ofNat (push6 (push6 (push6 (push6 H a) b) c) d / 2 ^ (0 + 6 - 2 - 2 - 2)) = UInt8.ofNat (c * 64 + d) := byte_eq (by unfold push6; omega)
      rw [hy, hy', hy'', show (0 + 6 - 2 - 2 - 2 : Nat) = 0 from rfl, ih, Option.map_map, Option.map_map]; rfl
    have e2 : unS 0 0 (ltr a :: ltr b :: ltr c :: ltr d :: ds r) = (unS 0 0 (ds r)).map ([UInt8.ofNat ((a * 64 + b) / 16), UInt8.ofNat ((b * 64 + c) / 4), UInt8.ofNat (c * 64 + d)] ++ ·) := by
      rw [unS_ltr _ _ _ ha, if_pos (by decide), unS_ltr _ _ _ hb, if_neg (by decide), unS_ltr _ _ _ hc, if_neg (by decide), unS_ltr _ _ _ hd, if_neg (by decide)]
      have hy : UInt8.ofNat (((0 * 64 + a) * 64 + b) / 2 ^ (0 + 6 - 2)) = UInt8.ofNat ((a * 64 + b) / 16) := byte_eq (by omega)
      have hy' : UInt8.ofNat ((((0 * 64 + a) * 64 + b) % 2 ^ (0 + 6 - 2) * 64 + c) / 2 ^ (0 + 6 - 2 - 2)) = UInt8.ofNat ((b * 64 + c) / 4) := byte_eq (by omega)
      have hy'' : UInt8.ofNat (((((0 * 64 + a) * 64 + b) % 2 ^ (0 + 6 - 2) * 64 + c) % 2 ^ (0 + 6 - 2 - 2) * 64 + d) / 2 ^ (0 + 6 - 2 - 2 - 2)) = UInt8.ofNat (c * 64 + d) := byte_eq (by omega)
      have hv : ((((0 * 64 + a) * 64 + b) % 2 ^ (0 + 6 - 2) * 64 + c) % 2 ^ (0 + 6 - 2 - 2) * 64 + d) % 2 ^ (0 + 6 - 2 - 2 - 2) = 0 := by omega
      rw [hy, hy', hy'', hv, show (0 + 6 - 2 - 2 - 2 : Nat) = 0 from rfl, Option.map_map, Option.map_map]; rfl
    rw [e1]
    unfold dec
    rw [e2]
    cases unS 0 0 (ds r) with
    | none => rfl
    | some o =>
      have e3 : enc ([UInt8.ofNat ((a * 64 + b) / 16), UInt8.ofNat ((b * 64 + c) / 4), UInt8.ofNat (c * 64 + d)] ++ o) = ltr a :: ltr b :: ltr c :: ltr d :: enc o := by
        show chunk ((UInt8.ofNat ((a * 64 + b) / 16)).toNat * 65536 + (UInt8.ofNat ((b * 64 + c) / 4)).toNat * 256 + (UInt8.ofNat (c * 64 + d)).toNat) ++ enc o = _
        rw [toNat_byte, toNat_byte, toNat_byte]
        exact cons_ltr (by omega) (cons_ltr (by omega) (cons_ltr (by omega) (cons_ltr (by omega) rfl)))
      rw [Option.map_some, Option.bind_some, Option.bind_some, e3]
      by_cases hz : enc o = ds r
      · rw [if_pos hz, hz, if_pos rfl]; rfl
      · rw [if_neg hz, if_neg]; rfl
        intro he; injection he with _ he; injection he with _ he; injection he with _ he; injection he with _ he; exact hz he

/-- the two ways agree, whatever stood in the word -/
theorem decS_dec (l : List UInt8) (H : Nat) : decS H 0 l = dec l := by
  rcases letters l with ⟨l', rfl, h⟩ | ⟨p, c, r, rfl, hp, hc⟩
  · exact dec_ds l' h H
  · rw [decS_none p c r hp hc, dec, unS_none p c r hp hc]; rfl

theorem dec_some {l o : List UInt8} (h : dec l = some o) : enc o = l ∧ unS 0 0 l = some o := by
  unfold dec at h
  cases hu : unS 0 0 l with
  | none => rw [hu] at h; cases h
  | some o' =>
    rw [hu, Option.bind_some] at h
    by_cases he : enc o' = l
    · rw [if_pos he] at h; injection h with h; rw [← h]; exact ⟨he, rfl⟩
    · rw [if_neg he] at h; cases h
theorem dec_none {l o : List UInt8} (h : dec l = none) (hu : unS 0 0 l = some o) : enc o ≠ l := by
  intro he
  unfold dec at h
  rw [hu, Option.bind_some, if_pos he] at h; cases h

theorem unS_enc : ∀ l : List UInt8, unS 0 0 (enc l) = some l
  | [] => rfl
  | [a] => by
    have ha := a.toNat_lt
    show unS 0 0 [ltr (a.toNat * 65536 / 262144), ltr (a.toNat * 65536 / 4096 % 64)] = _
    rw [unS_ltr _ _ _ (by omega), if_pos (by decide), unS_ltr _ _ _ (by omega), if_neg (by decide), unS]
    have : UInt8.ofNat (((0 * 64 + a.toNat * 65536 / 262144) * 64 + a.toNat * 65536 / 4096 % 64) / 2 ^ (0 + 6 - 2)) = a := by
      apply UInt8.toNat_inj.1; rw [toNat_byte]; omega
    rw [this]; rfl
  | [a, b] => by
    have ha := a.toNat_lt
    have hb := b.toNat_lt
    obtain ⟨v, hv⟩ : ∃ v, v = a.toNat * 65536 + b.toNat * 256 := ⟨_, rfl⟩
    show unS 0 0 [ltr ((a.toNat * 65536 + b.toNat * 256) / 262144), ltr ((a.toNat * 65536 + b.toNat * 256) / 4096 % 64), ltr ((a.toNat * 65536 + b.toNat * 256) / 64 % 64)] = _
    rw [← hv]
    rw [unS_ltr _ _ _ (by omega), if_pos (by decide), unS_ltr _ _ _ (by omega), if_neg (by decide), unS_ltr _ _ _ (by omega), if_neg (by decide), unS]
    have h1 : UInt8.ofNat (((0 * 64 + v / 262144) * 64 + v / 4096 % 64) / 2 ^ (0 + 6 - 2)) = a := by
      apply UInt8.toNat_inj.1; rw [toNat_byte]; omega
    have h2 : UInt8.ofNat ((((0 * 64 + v / 262144) * 64 + v / 4096 % 64) % 2 ^ (0 + 6 - 2) * 64 + v / 64 % 64) / 2 ^ (0 + 6 - 2 - 2)) = b := by
      apply UInt8.toNat_inj.1; rw [toNat_byte]; omega
    rw [h1, h2]; rfl
  | a :: b :: c :: r => by
    have ha := a.toNat_lt
    have hb := b.toNat_lt
    have hc := c.toNat_lt
    obtain ⟨v, hv⟩ : ∃ v, v = a.toNat * 65536 + b.toNat * 256 + c.toNat := ⟨_, rfl⟩
    show unS 0 0 (ltr ((a.toNat * 65536 + b.toNat * 256 + c.toNat) / 262144) :: ltr ((a.toNat * 65536 + b.toNat * 256 + c.toNat) / 4096 % 64) :: ltr ((a.toNat * 65536 + b.toNat * 256 + c.toNat) / 64 % 64) :: ltr ((a.toNat * 65536 + b.toNat * 256 + c.toNat) % 64) :: enc r) = _
    rw [← hv]
    rw [unS_ltr _ _ _ (by omega), if_pos (by decide), unS_ltr _ _ _ (by omega), if_neg (by decide), unS_ltr _ _ _ (by omega), if_neg (by decide), unS_ltr _ _ _ (by omega), if_neg (by decide)]
    have h1 : UInt8.ofNat (((0 * 64 + v / 262144) * 64 + v / 4096 % 64) / 2 ^ (0 + 6 - 2)) = a := by
      apply UInt8.toNat_inj.1; rw [toNat_byte]; omega
    have h2 : UInt8.ofNat ((((0 * 64 + v / 262144) * 64 + v / 4096 % 64) % 2 ^ (0 + 6 - 2) * 64 + v / 64 % 64) / 2 ^ (0 + 6 - 2 - 2)) = b := by
      apply UInt8.toNat_inj.1; rw [toNat_byte]; omega
    have h3 : UInt8.ofNat (((((0 * 64 + v / 262144) * 64 + v / 4096 % 64) % 2 ^ (0 + 6 - 2) * 64 + v / 64 % 64) % 2 ^ (0 + 6 - 2 - 2) * 64 + v % 64) / 2 ^ (0 + 6 - 2 - 2 - 2)) = c := by
      apply UInt8.toNat_inj.1; rw [toNat_byte]; omega
    have h4 : ((((0 * 64 + v / 262144) * 64 + v / 4096 % 64) % 2 ^ (0 + 6 - 2) * 64 + v / 64 % 64) % 2 ^ (0 + 6 - 2 - 2) * 64 + v % 64) % 2 ^ (0 + 6 - 2 - 2 - 2) = 0 := by omega
    rw [h1, h2, h3, h4, show (0 + 6 - 2 - 2 - 2 : Nat) = 0 from rfl, unS_enc r]; rfl
theorem dec_enc (l : List UInt8) : dec (enc l) = some l := by unfold dec; rw [unS_enc, Option.bind_some, if_pos rfl]

theorem dec_bad (l : List UInt8) (c : UInt8) (hc : ix c = -1) : dec (l ++ [c]) = none := by
  have : unS 0 0 (l ++ [c]) = none := by
    rcases letters l with ⟨l', rfl, h⟩ | ⟨p, c', r, rfl, hp, hc'⟩
    · exact unS_none l' c [] h hc 0 0
    · rw [List.append_assoc]; exact unS_none p c' (r ++ [c]) hp hc' 0 0
  unfold dec; rw [this]; rfl
theorem dec_len {l : List UInt8} (h : l.length % 4 = 1) : dec l = none := by
  cases hd : dec l with
  | none => rfl
  | some o =>
    have := (dec_some hd).1
    have hl := enc_len o
    rw [this] at hl; omega
end Go.Proofs.YtlcpehmdhnakpaaDoor
namespace Go.Proofs.YtlcpehmdhnakpaaDoor
open Go.RowKit

theorem sixty_any (n : Int) (h0 : 0 ≤ n) (h1 : n < 64) (w : World) :
    Calls Tryd.prog 27 #[.int .i64 n] w fun e w' => e = .returned (.int .u8 ((ltr n.toNat).toNat : Int)) ∧ w = w' := by
  go_enter Tryd.func27, Tryd.ntmps27
  go_wp2
  go_ret
  have h : n.toNat < (ByteArray.mk ltrs).size := by show n.toNat < 64; omega
  exact ⟨ret_int (congrArg (fun (x : UInt8) => (x.toNat : Int)) (ltr_at h)), rfl⟩

theorem alnum_any (c : UInt8) (w : World) :
    Calls Tryd.prog 53 #[.int .u8 c.toNat] w fun e w' => e = .returned (.bool (alnumB c)) ∧ w = w' := by
  go_enter Tryd.func53, Tryd.ntmps53
  go_wp2
  all_goals
    go_ret
    exact ⟨ret_bool (by rw [Bool.eq_iff_iff]; simp [alnumB]; omega), rfl⟩

set_option maxRecDepth 100000 in
theorem refPlain_any (c : UInt8) (w : World) :
    Calls Tryd.prog 41 #[.int .u8 c.toNat] w fun e w' => e = .returned (.bool (plainB c)) ∧ w = w' := by
  by_cases ha : alnumB c = true
  · have hp : plainB c = true := by simp [alnumB] at ha; simp [plainB]; omega
    rw [hp]; clear hp
    go_enter Tryd.func41, Tryd.ntmps41
    go_wp2_with (go_at_call 53; refine (alnum_any c _).mono ?_; rintro e w' ⟨rfl, rfl⟩)
    go_ret
    exact ⟨rfl, rfl⟩
  · have ha' : alnumB c = false := by simpa using ha
    have hp : plainB c = decide ((c.toNat : Int) = 45 ∨ (c.toNat : Int) = 46 ∨ (c.toNat : Int) = 95 ∨ (c.toNat : Int) = 126) := by
      rw [Bool.eq_iff_iff]; simp [alnumB] at ha; simp [plainB]; omega
    rw [hp]; clear hp ha
    go_enter Tryd.func41, Tryd.ntmps41
    go_wp2_with (go_at_call 53; refine (alnum_any c _).mono ?_; rintro e w' ⟨rfl, rfl⟩)
    all_goals
      go_ret
      exact ⟨ret_bool (by rw [Bool.eq_iff_iff]; simp [*]; try omega), rfl⟩

set_option maxRecDepth 100000 in
theorem hex_any (c : UInt8) (w : World) :
    Calls Tryd.prog 52 #[.int .u8 c.toNat] w fun e w' => e = .returned (.int .i64 (hexI c)) ∧ w = w' := by
  have hc : (c.toNat : Int) < 256 := by have := c.toNat_lt; omega
  go_enter Tryd.func52, Tryd.ntmps52
  go_wp2
  all_goals
    go_ret
    exact ⟨ret_int (by have := hexI_spec c; omega), rfl⟩

theorem hex_quiet (c : UInt8) (w : World) :
    Calls Tryd.prog 52 #[.int .u8 c.toNat] w fun e w' => e = .returned (.int .i64 (hexI c)) ∧ w' = w := (hex_any c w).mono fun _ _ h => ⟨h.1, h.2.symm⟩
theorem sixty_quiet (n : Int) (h0 : 0 ≤ n) (h1 : n < 64) (w : World) :
    Calls Tryd.prog 27 #[.int .i64 n] w fun e w' => e = .returned (.int .u8 ((ltr n.toNat).toNat : Int)) ∧ w' = w := (sixty_any n h0 h1 w).mono fun _ _ h => ⟨h.1, h.2.symm⟩

/-- what digit answers: the number, and whether there is one -/
def DigitSays (c : UInt8) (e : Ending) : Prop := (0 ≤ hexI c ∧ e = .returned (.tuple #[.int .u8 (hexI c), .bool true])) ∨ (hexI c = -1 ∧ e = .returned (.tuple #[.int .u8 0, .bool false]))
set_option maxRecDepth 100000 in
theorem digit_says (c : UInt8) (w : World) :
    Calls Tryd.prog 63 #[.int .u8 c.toNat] w fun e w' => DigitSays c e ∧ w' = w := by
  have hc : (c.toNat : Int) < 256 := by have := c.toNat_lt; omega
  go_enter Tryd.func63, Tryd.ntmps63
  go_wp2
  all_goals
    go_ret2
    have hs := hexI_spec c
    refine ⟨?_, rfl⟩
    first
      | exact Or.inl ⟨by omega, ret_tup (by omega) rfl⟩
      | exact Or.inr ⟨by omega, rfl⟩

theorem digit_yes (c : UInt8) (h : 0 ≤ hexI c) (w : World) :
    Calls Tryd.prog 63 #[.int .u8 c.toNat] w fun e w' => e = .returned (.tuple #[.int .u8 (hexI c), .bool true]) ∧ w = w' :=
  (digit_says c w).mono fun _ _ ⟨hd, hw⟩ => ⟨by rcases hd with ⟨_, h'⟩ | ⟨h', _⟩; exact h'; omega, hw.symm⟩
theorem digit_no (c : UInt8) (h : hexI c = -1) (w : World) :
    Calls Tryd.prog 63 #[.int .u8 c.toNat] w fun e w' => e = .returned (.tuple #[.int .u8 0, .bool false]) ∧ w = w' :=
  (digit_says c w).mono fun _ _ ⟨hd, hw⟩ => ⟨by rcases hd with ⟨h', _⟩ | ⟨_, h'⟩; omega; exact h', hw.symm⟩

/-! ## strings.IndexByte -/
set_option maxRecDepth 100000 in
theorem stringslite_any (s : ByteArray) (c : Int) (w : World) :
    Calls Tryd.prog 64 #[.string s, .int .u8 c] w fun e w' => e = .returned (.int .i64 (Lib.indexByte s.data.toList c.toNat.toUInt8)) ∧ w = w' := by
  go_enter Tryd.func64, Tryd.ntmps64
  go_wp2
  rw [run_callFunc_extern Tryd.func71 (by kernel_rfl) (by kernel_rfl) (by kernel_rfl) (e := Extern.BytealgIndexByte.indexByte) (by kernel_rfl), Lib.run_indexByteString]
  simp only [Result.andThen]
  rw [Oper.upon_value]
  go_wp2
  go_ret
  exact ⟨rfl, rfl⟩
theorem indexByte_any (s : ByteArray) (c : Int) (w : World) :
    Calls Tryd.prog 58 #[.string s, .int .u8 c] w fun e w' => e = .returned (.int .i64 (Lib.indexByte s.data.toList c.toNat.toUInt8)) ∧ w = w' := by
  go_enter Tryd.func58, Tryd.ntmps58
  go_wp2_with (go_at_call 64; refine (stringslite_any _ _ _).mono ?_; rintro e w' ⟨rfl, rfl⟩)
  go_ret
  exact ⟨rfl, rfl⟩
end Go.Proofs.YtlcpehmdhnakpaaDoor
namespace Go.Proofs.YtlcpehmdhnakpaaDoor

/-- where a byte stands first; the length: nowhere -/
def atL (c : UInt8) : List UInt8 → Nat
  | [] => 0
  | x :: r => if x = c then 0 else atL c r + 1
theorem atL_le (c : UInt8) (l : List UInt8) : atL c l ≤ l.length := by
  induction l with
  | nil => simp [atL]
  | cons x r ih => unfold atL; split <;> simp <;> omega
theorem atL_hit (c : UInt8) (l : List UInt8) (h : atL c l < l.length) : l[atL c l] = c := by
  induction l with
  | nil => simp at h
  | cons x r ih =>
    by_cases e : x = c
    · simp [atL, e]
    · have e' : atL c (x :: r) = atL c r + 1 := by simp [atL, e]
      simp only [e'] at h ⊢
      simp at h ⊢
      exact ih h
theorem atL_before (c : UInt8) (l : List UInt8) (k : Nat) (hk : k < atL c l) (h : k < l.length) : l[k] ≠ c := by
  induction l generalizing k with
  | nil => simp at h
  | cons x r ih =>
    by_cases e : x = c
    · simp [atL, e] at hk
    · have e' : atL c (x :: r) = atL c r + 1 := by simp [atL, e]
      cases k with
      | zero => simpa using e
      | succ k => simp at h ⊢; exact ih k (by omega) h
theorem atL_is (c : UInt8) (l : List UInt8) (k : Nat) (hk : k ≤ l.length) (hb : ∀ j (hj : j < l.length), j < k → l[j] ≠ c) (hh : ∀ h : k < l.length, l[k] = c) : atL c l = k := by
  rcases Nat.lt_trichotomy (atL c l) k with h | h | h
  · exact absurd (atL_hit c l (by omega)) (hb _ (by omega) h)
  · exact h
  · have := atL_le c l
    exact absurd (hh (by omega)) (atL_before c l k h (by omega))
theorem atL_app (c : UInt8) (a b : List UInt8) (h : c ∉ a) : atL c (a ++ b) = a.length + atL c b := by
  induction a with
  | nil => simp
  | cons x r ih =>
    simp at h
    have hx : x ≠ c := fun e => h.1 e.symm
    simp [atL, hx, ih h.2]; omega
theorem atL_none (c : UInt8) (a : List UInt8) (h : c ∉ a) : atL c a = a.length := by
  have := atL_app c a [] h; simpa [atL] using this
theorem atL_index (c : UInt8) (l : List UInt8) : Lib.indexByte l c = if atL c l < l.length then (atL c l : Int) else -1 := by
  induction l with
  | nil => simp [Lib.indexByte]
  | cons x r ih =>
    by_cases e : x = c
    · simp [Lib.indexByte, atL, e]
    · have e' : (x == c) = false := by simpa using e
      unfold Lib.indexByte atL
      rw [if_neg e, e', ih]
      by_cases h : atL c r < r.length
      · have h' : atL c r + 1 < (x :: r).length := by simp; omega
        rw [if_pos h, if_pos h']
        have : ((atL c r : Int) == -1) = false := by simp
        simp [this]
      · have h' : ¬ atL c r + 1 < (x :: r).length := by simp; omega
        rw [if_neg h, if_neg h']; simp

/-- a text's parts between a byte -/
def splitL (c : UInt8) : List UInt8 → List (List UInt8)
  | [] => [[]]
  | x :: r => if x = c then [] :: splitL c r else (match splitL c r with | [] => [[x]] | h :: t => (x :: h) :: t)
theorem splitL_cons (c x : UInt8) (r : List UInt8) : splitL c (x :: r) = if x = c then [] :: splitL c r else (match splitL c r with | [] => [[x]] | h :: t => (x :: h) :: t) := rfl
theorem splitL_at (c : UInt8) (l : List UInt8) : splitL c l = if atL c l < l.length then l.take (atL c l) :: splitL c (l.drop (atL c l + 1)) else [l] := by
  induction l with
  | nil => simp [splitL]
  | cons x r ih =>
    by_cases e : x = c
    · simp [splitL, atL, e]
    · have e' : atL c (x :: r) = atL c r + 1 := by simp [atL, e]
      rw [splitL_cons, if_neg e, e', ih]
      by_cases h : atL c r < r.length
      · have h' : atL c r + 1 < (x :: r).length := by simp; omega
        rw [if_pos h, if_pos h']; simp
      · have h' : ¬ atL c r + 1 < (x :: r).length := by simp; omega
        rw [if_neg h, if_neg h']
theorem splitL_more {c : UInt8} {l : List UInt8} (h : atL c l < l.length) : splitL c l = l.take (atL c l) :: splitL c (l.drop (atL c l + 1)) := by
  rw [splitL_at, if_pos h]
theorem splitL_last {c : UInt8} {l : List UInt8} (h : l.length ≤ atL c l) : splitL c l = [l] := by
  rw [splitL_at, if_neg (by omega)]
theorem splitL_len (c : UInt8) (l : List UInt8) : (splitL c l).length ≤ l.length + 1 := by
  induction l with
  | nil => simp [splitL]
  | cons x r ih =>
    unfold splitL
    split
    · simp; omega
    · split
      · simp
      · rename_i h t e; rw [e] at ih; simp at ih ⊢; omega
theorem splitL_each (c : UInt8) (l : List UInt8) : ∀ p ∈ splitL c l, p.length ≤ l.length := by
  induction l with
  | nil => simp [splitL]
  | cons x r ih =>
    unfold splitL
    split
    · intro p hp; simp at hp; rcases hp with rfl | hp
      · simp
      · have := ih p hp; simp; omega
    · split
      · intro p hp; simp at hp; subst hp; simp
      · rename_i h t e
        rw [e] at ih
        intro p hp; simp at hp
        rcases hp with rfl | hp
        · have := ih h (by simp); simp; omega
        · have := ih p (by simp [hp]); simp; omega

/-- the parts between & that are not empty -/
def partsL (l : List UInt8) : List (List UInt8) := (splitL 38 l).filter (fun p => !p.isEmpty)
def one1 (p : List UInt8) : List (List UInt8) := if p = [] then [] else [p]
theorem filter_one1 (p : List UInt8) (r : List (List UInt8)) : (p :: r).filter (fun p => !p.isEmpty) = one1 p ++ r.filter (fun p => !p.isEmpty) := by
  cases p <;> simp [one1]
theorem partsL_more {l : List UInt8} (h : atL 38 l < l.length) : partsL l = one1 (l.take (atL 38 l)) ++ partsL (l.drop (atL 38 l + 1)) := by
  unfold partsL; rw [splitL_more h, filter_one1]
theorem partsL_last {l : List UInt8} (h : l.length ≤ atL 38 l) : partsL l = one1 l := by
  unfold partsL; rw [splitL_last h, filter_one1]; simp
theorem partsL_app (a b : List UInt8) (h : (38 : UInt8) ∉ a) : partsL (a ++ 38 :: b) = one1 a ++ partsL b := by
  have e : atL 38 (a ++ 38 :: b) = a.length := by rw [atL_app _ _ _ h]; simp [atL]
  rw [partsL_more (by rw [e]; simp), e]
  simp
theorem partsL_one (a : List UInt8) (h : (38 : UInt8) ∉ a) : partsL a = one1 a := partsL_last (by rw [atL_none _ _ h]; exact Nat.le_refl _)
theorem partsL_amp (b : List UInt8) : partsL (38 :: b) = partsL b := by
  have := partsL_app [] b (by simp); simpa [one1] using this
theorem partsL_amps (n : Nat) (b : List UInt8) : partsL (List.replicate n 38 ++ b) = partsL b := by
  induction n with
  | zero => simp
  | succ n ih => rw [List.replicate_succ, List.cons_append, partsL_amp, ih]

/-- the pair that a part stands for -/
def pairL (p : List UInt8) : Option (List UInt8 × List UInt8) :=
  match unq (p.take (atL 61 p)), unq (p.drop (atL 61 p + 1)) with
  | some a, some b => some (a, b)
  | _, _ => none
theorem pairL_some {p a b : List UInt8} (h : unq (p.take (atL 61 p)) = some a) (h' : unq (p.drop (atL 61 p + 1)) = some b) : pairL p = some (a, b) := by
  unfold pairL; rw [h, h']
theorem pairL_key {p : List UInt8} (h : unq (p.take (atL 61 p)) = none) : pairL p = none := by
  unfold pairL; rw [h]
theorem pairL_val {p : List UInt8} (h' : unq (p.drop (atL 61 p + 1)) = none) : pairL p = none := by
  unfold pairL; rw [h']; cases unq (p.take (atL 61 p)) <;> rfl
abbrev PL := List (List UInt8 × List UInt8)
def pairsL : List (List UInt8) → Option PL
  | [] => some []
  | p :: r => match pairL p, pairsL r with
    | some x, some xs => some (x :: xs)
    | _, _ => none
theorem pairsL_cons (p : List UInt8) (r : List (List UInt8)) : pairsL (p :: r) = match pairL p, pairsL r with
    | some x, some xs => some (x :: xs)
    | _, _ => none := rfl
theorem pairsL_app_some {l : List (List UInt8)} {xs : PL} (h : pairsL l = some xs) (r : List (List UInt8)) : pairsL (l ++ r) = (pairsL r).map (xs ++ ·) := by
  induction l generalizing xs with
  | nil => simp [pairsL] at h; subst h; simp
  | cons p l ih =>
    rw [pairsL_cons] at h
    rw [List.cons_append, pairsL_cons]
    cases hp : pairL p with
    | none => rw [hp] at h; simp at h
    | some x =>
      cases hl : pairsL l with
      | none => rw [hp, hl] at h; simp at h
      | some ys =>
        rw [hp, hl] at h
        simp at h; subst h
        rw [ih hl]
        cases pairsL r <;> simp
theorem pairsL_app_none {l : List (List UInt8)} (h : pairsL l = none) (r : List (List UInt8)) : pairsL (l ++ r) = none := by
  induction l with
  | nil => simp [pairsL] at h
  | cons p l ih =>
    rw [pairsL_cons] at h
    rw [List.cons_append, pairsL_cons]
    cases hp : pairL p with
    | none => rfl
    | some x =>
      cases hl : pairsL l with
      | none => rw [ih hl]
      | some ys => rw [hp, hl] at h; simp at h
theorem pairsL_snoc {l : List (List UInt8)} {xs : PL} {p : List UInt8} {x : List UInt8 × List UInt8} (h : pairsL l = some xs) (hp : pairL p = some x) : pairsL (l ++ [p]) = some (xs ++ [x]) := by
  rw [pairsL_app_some h]; simp [pairsL, hp]
theorem pairsL_bad {l : List (List UInt8)} {p : List UInt8} (hp : pairL p = none) : pairsL (l ++ [p]) = none := by
  cases h : pairsL l with
  | none => exact pairsL_app_none h _
  | some xs => rw [pairsL_app_some h]; simp [pairsL, hp]
theorem pairsL_len {l : List (List UInt8)} {xs : PL} (h : pairsL l = some xs) : xs.length = l.length := by
  induction l generalizing xs with
  | nil => simp [pairsL] at h; subst h; rfl
  | cons p l ih =>
    rw [pairsL_cons] at h
    cases hp : pairL p with
    | none => rw [hp] at h; simp at h
    | some x =>
      cases hl : pairsL l with
      | none => rw [hp, hl] at h; simp at h
      | some ys => rw [hp, hl] at h; simp at h; subst h; simp [ih hl]

/-- what a form stands for -/
def formL (l : List UInt8) : Option PL := pairsL (partsL l)
theorem partsL_len (l : List UInt8) : (partsL l).length ≤ l.length + 1 := Nat.le_trans (List.length_filter_le _ _) (splitL_len 38 l)

/-! ## Build -/
def oneL (p : List UInt8 × List UInt8) : List UInt8 := quoteL p.1 ++ 61 :: quoteL p.2
def buildL : PL → List UInt8
  | [] => []
  | [p] => oneL p
  | p :: q :: r => oneL p ++ 38 :: buildL (q :: r)
theorem buildL_snoc (l : PL) (p : List UInt8 × List UInt8) (h : l ≠ []) : buildL (l ++ [p]) = buildL l ++ 38 :: oneL p := by
  induction l with
  | nil => exact absurd rfl h
  | cons q l ih =>
    cases l with
    | nil => simp [buildL]
    | cons q' l =>
      have := ih (by simp)
      simp only [List.cons_append] at this ⊢
      simp [buildL, this]
theorem oneL_len (p : List UInt8 × List UInt8) : (oneL p).length ≤ 3 * (p.1.length + p.2.length) + 1 := by
  have := quoteL_le p.1; have := quoteL_le p.2
  simp [oneL]; omega
theorem buildL_len (l : PL) (m : Nat) (h : ∀ p ∈ l, p.1.length + p.2.length ≤ m) : (buildL l).length ≤ l.length * (3 * m + 2) := by
  induction l with
  | nil => simp [buildL]
  | cons p l ih =>
    have h1 := h p (by simp)
    have h2 := ih (fun q hq => h q (by simp [hq]))
    have h3 := oneL_len p
    cases l with
    | nil => simp [buildL]; omega
    | cons q r =>
      simp only [buildL, List.length_append, List.length_cons] at h2 ⊢
      rw [Nat.add_mul]; omega

theorem hexU_not : ∀ n : Nat, n < 16 → hexU n ≠ 38 ∧ hexU n ≠ 61 := by decide
theorem plain_not2 : ∀ c : UInt8, plainB c = true → c ≠ 38 ∧ c ≠ 61 := by
  intro c h
  constructor <;> (rintro rfl; revert h; decide)
theorem quote1_not (c : UInt8) : ∀ x ∈ quote1 c, x ≠ 38 ∧ x ≠ 61 := by
  intro x hx
  have hc := c.toNat_lt
  unfold quote1 at hx
  split at hx
  · rename_i h; simp at hx; subst hx; exact plain_not2 x h
  · simp at hx
    rcases hx with rfl | rfl | rfl
    · decide
    · exact hexU_not _ (by omega)
    · exact hexU_not _ (by omega)
theorem quoteL_not (l : List UInt8) : (38 : UInt8) ∉ quoteL l ∧ (61 : UInt8) ∉ quoteL l := by
  unfold quoteL
  constructor
  · intro h; obtain ⟨c, _, hc⟩ := List.mem_flatMap.1 h; exact (quote1_not c _ hc).1 rfl
  · intro h; obtain ⟨c, _, hc⟩ := List.mem_flatMap.1 h; exact (quote1_not c _ hc).2 rfl
theorem oneL_amp (p : List UInt8 × List UInt8) : (38 : UInt8) ∉ oneL p := by
  have h1 := (quoteL_not p.1).1; have h2 := (quoteL_not p.2).1
  simp [oneL, h1, h2]
theorem oneL_ne (p : List UInt8 × List UInt8) : oneL p ≠ [] := by simp [oneL]
theorem pairL_oneL (p : List UInt8 × List UInt8) : pairL (oneL p) = some p := by
  have e : atL 61 (oneL p) = (quoteL p.1).length := by unfold oneL; rw [atL_app _ _ _ (quoteL_not p.1).2]; simp [atL]
  have h1 : (oneL p).take (atL 61 (oneL p)) = quoteL p.1 := by rw [e]; unfold oneL; simp
  have h2 : (oneL p).drop (atL 61 (oneL p) + 1) = quoteL p.2 := by
    rw [e]; unfold oneL
    rw [← List.drop_drop]; simp
  have := pairL_some (p := oneL p) (a := p.1) (b := p.2) (by rw [h1]; exact unq_quoteL _) (by rw [h2]; exact unq_quoteL _)
  exact this
theorem one1_oneL (p : List UInt8 × List UInt8) : one1 (oneL p) = [oneL p] := by unfold one1; rw [if_neg (oneL_ne p)]
theorem partsL_buildL (l : PL) : partsL (buildL l) = l.map oneL := by
  induction l with
  | nil => decide
  | cons p l ih =>
    cases l with
    | nil => simp only [buildL, List.map]; rw [partsL_one _ (oneL_amp p), one1_oneL]
    | cons q r =>
      simp only [buildL]
      rw [partsL_app _ _ (oneL_amp p), ih, one1_oneL]; simp
theorem pairsL_oneL (l : PL) : pairsL (l.map oneL) = some l := by
  induction l with
  | nil => rfl
  | cons p l ih => simp [pairsL, pairL_oneL, ih]
theorem formL_buildL (l : PL) : formL (buildL l) = some l := by unfold formL; rw [partsL_buildL, pairsL_oneL]

/-! ## Get, Twice -/
def getL (l : PL) (k : List UInt8) : Option (List UInt8) := (l.find? (fun p => p.1 == k)).map (·.2)
def twiceL : PL → Bool
  | [] => false
  | p :: r => (r.map (·.1)).contains p.1 || twiceL r
end Go.Proofs.YtlcpehmdhnakpaaDoor
