/- Texts merged by program, in build order: Mac, PkcePure, AskDef, HeldMore, CliRef, CliRef2, Quoted, Unquote, RefUnquote, Words. -/
import Derived.Test.YtlcpehmdhnakpaaDoorG04
import Derived.Lib.LazyBuf
import Derived.Test.YtlcpehmdhnakpaaDoorG02
import Derived.Test.YtlcpehmdhnakpaaDoorG03
import Derived.Deep.RegionHeld3
import Derived.Test.YtlcpehmdhnakpaaDoorG01
set_option linter.unusedVariables false
set_option linter.unusedSimpArgs false
namespace Go.Proofs.YtlcpehmdhnakpaaDoor
open Go.RowKit

def keyL (k : List UInt8) : List UInt8 := if 64 < k.length then sumL k else k
def padK (k : List UInt8) : List UInt8 := keyL k ++ List.replicate (64 - (keyL k).length) 0
def xorL (c : UInt8) (l : List UInt8) : List UInt8 := l.map fun x => x ^^^ c
def macL (k b : List UInt8) : List UInt8 := sumL (xorL 92 (padK k) ++ sumL (xorL 54 (padK k) ++ b))
theorem sumL_len (l : List UInt8) : (sumL l).length = 32 := rfl
theorem keyL_len (k : List UInt8) : (keyL k).length ≤ 64 := by
  unfold keyL; split
  · rw [sumL_len]; omega
  · omega
theorem padK_len (k : List UInt8) : (padK k).length = 64 := by
  have := keyL_len k
  unfold padK; rw [List.length_append, List.length_replicate]; omega
theorem macL_len (k b : List UInt8) : (macL k b).length = 32 := rfl
theorem xor8 (x c : UInt8) : bits .xor .u8 (x.toNat : Int) (c.toNat : Int) = ((x ^^^ c).toNat : Int) := by
  rw [bits_xor_nat .u8 8 (by decide) (fun n h0 h1 => by rw [IntKind.wrap_u8]; omega) _ _ x.toNat_lt c.toNat_lt, UInt8.toNat_xor]
/-- the first i bytes turned -/
def xorI (c : UInt8) (l : List UInt8) (i : Nat) : List UInt8 := xorL c (l.take i) ++ l.drop i
theorem xorI_len (c : UInt8) (l : List UInt8) (i : Nat) : (xorI c l i).length = l.length := by simp [xorI, xorL]; omega
theorem xorI_zero (c : UInt8) (l : List UInt8) : xorI c l 0 = l := by simp [xorI, xorL]
theorem xorI_all (c : UInt8) (l : List UInt8) (n : Nat) (h : l.length = n) : xorI c l n = xorL c l := by subst h; simp [xorI, xorL]
theorem xorI_at (c : UInt8) (l : List UInt8) (i : Nat) (h : i < l.length) (h' : i < (xorI c l i).length) : (xorI c l i)[i] = l[i] := by
  have e : (xorI c l i)[i]? = some l[i] := by
    unfold xorI xorL
    rw [List.getElem?_append_right (by simp; omega)]
    simp [Nat.min_eq_left (Nat.le_of_lt h), h]
  rw [List.getElem?_eq_getElem h'] at e
  injection e
theorem xorI_next (c : UInt8) (l : List UInt8) (i : Nat) (h : i < l.length) : (xorI c l i).set i (l[i] ^^^ c) = xorI c l (i + 1) := by
  unfold xorI xorL
  rw [List.set_append_right _ _ (by simp; omega), List.take_succ_eq_append_getElem h, List.map_append, List.append_assoc]
  congr 1
  have e : i - (List.map (fun x => x ^^^ c) (List.take i l)).length = 0 := by simp; omega
  rw [e, List.drop_eq_getElem_cons h]; rfl

def setAll (C : Array Value) : Nat → List Value → Array Value
  | _, [] => C
  | o, v :: r => setAll (C.setIfInBounds o v) (o + 1) r
theorem setCells_heap {b : Nat} {t : TypeId} : ∀ (vs : List Value) (o : Nat) (w : World) (C : Array Value), w.heap[b]? = some (.cells C t) → (w.setCells b o vs).heap[b]? = some (.cells (setAll C o vs) t)
  | [], _, _, _, h => h
  | v :: r, o, w, C, h => setCells_heap r (o + 1) (w.setCell ⟨b, o, none⟩ v) (C.setIfInBounds o v) (heap_set_cell h v)
theorem setCells_far {b k : Nat} (hk : k ≠ b) : ∀ (vs : List Value) (o : Nat) (w : World), (w.setCells b o vs).heap[k]? = w.heap[k]?
  | [], _, _ => rfl
  | v :: r, o, w => (setCells_far hk r (o + 1) (w.setCell ⟨b, o, none⟩ v)).trans (Below.heap_setCell w _ v k (fun e => hk (by rw [e])))
end Go.Proofs.YtlcpehmdhnakpaaDoor
namespace Go.Proofs.YtlcpehmdhnakpaaDoor
open Go.RowKit
set_option linter.unusedVariables false

def chalL (v : List UInt8) : List UInt8 := enc (sumL v)
def rightB (c v : List UInt8) : Bool := v.all plainB && decide (43 ≤ v.length) && decide (v.length ≤ 128) && decide (chalL v = c)
def goodB (c : List UInt8) : Bool := match dec c with
  | some o => decide (o.length = 32)
  | none => false
theorem good_chal (v : List UInt8) : goodB (chalL v) = true := by
  unfold goodB chalL
  rw [dec_enc]
  simp [sumL_len]
theorem right_own (v : List UInt8) : rightB (chalL v) v = (v.all plainB && decide (43 ≤ v.length) && decide (v.length ≤ 128)) := by
  unfold rightB
  simp
end Go.Proofs.YtlcpehmdhnakpaaDoor
namespace Go.Proofs.YtlcpehmdhnakpaaDoor
set_option linter.unusedVariables false

def kCid : List UInt8 := [99, 108, 105, 101, 110, 116, 95, 105, 100]
def kRed : List UInt8 := [114, 101, 100, 105, 114, 101, 99, 116, 95, 117, 114, 105]
def kSta : List UInt8 := [115, 116, 97, 116, 101]
def kNon : List UInt8 := [110, 111, 110, 99, 101]
def kSco : List UInt8 := [115, 99, 111, 112, 101]
def kCha : List UInt8 := [99, 111, 100, 101, 95, 99, 104, 97, 108, 108, 101, 110, 103, 101]
def kTyp : List UInt8 := [114, 101, 115, 112, 111, 110, 115, 101, 95, 116, 121, 112, 101]
def kMet : List UInt8 := [99, 111, 100, 101, 95, 99, 104, 97, 108, 108, 101, 110, 103, 101, 95, 109, 101, 116, 104, 111, 100]
def sCode : List UInt8 := [99, 111, 100, 101]
def sS256 : List UInt8 := [83, 50, 53, 54]
def sOpen : List UInt8 := [111, 112, 101, 110, 105, 100]
def eReq : List UInt8 := [105, 110, 118, 97, 108, 105, 100, 95, 114, 101, 113, 117, 101, 115, 116]
def eCli : List UInt8 := [105, 110, 118, 97, 108, 105, 100, 95, 99, 108, 105, 101, 110, 116]
def eTyp : List UInt8 := [117, 110, 115, 117, 112, 112, 111, 114, 116, 101, 100, 95, 114, 101, 115, 112, 111, 110, 115, 101, 95, 116, 121, 112, 101]
def eSco : List UInt8 := [105, 110, 118, 97, 108, 105, 100, 95, 115, 99, 111, 112, 101]
/-- ask.Ask -/
structure AskV where
  vC : List UInt8
  vR : List UInt8
  vS : List UInt8
  vN : List UInt8
  vO : List UInt8
  vH : List UInt8
def AskV.val (a : AskV) : Value := .agg #[tv a.vC, tv a.vR, tv a.vS, tv a.vN, tv a.vO, tv a.vH]
def noAsk : AskV := ⟨[], [], [], [], [], []⟩
def gP (l : PL) (k : List UInt8) : List UInt8 := (getL l k).getD []
def openB (s : List UInt8) : Bool := decide (sOpen ∈ splitL 32 s)
/-- what a client is told -/
def wrongP (l : PL) : List UInt8 :=
  if gP l kTyp ≠ sCode then eTyp
  else if gP l kMet ≠ sS256 ∨ goodB (gP l kCha) = false then eReq
  else if openB (gP l kSco) = false then eSco
  else if 256 < (gP l kSta).length ∨ 256 < (gP l kNon).length ∨ 256 < (gP l kSco).length then eReq
  else []
def askAll (l : PL) : AskV := ⟨gP l kCid, gP l kRed, gP l kSta, gP l kNon, gP l kSco, gP l kCha⟩
def askFew (l : PL) : AskV := ⟨gP l kCid, gP l kRed, if 256 < (gP l kSta).length then [] else gP l kSta, [], [], []⟩
/-- Check -/
noncomputable def askP (x : CfgP) (q : List UInt8) : AskV × List UInt8 × Bool :=
  if parseE q ≠ 0 ∨ twiceB (parseP q) = true then (noAsk, eReq, false)
  else match findCl x.gClients (gP (parseP q) kCid) with
    | none => (noAsk, eCli, false)
    | some r => if redirP r (gP (parseP q) kRed) = false then (noAsk, eReq, false)
      else if wrongP (parseP q) = [] then (askAll (parseP q), [], false)
      else (askFew (parseP q), wrongP (parseP q), true)
theorem find_id {l : List CliP} {id : List UInt8} {r : CliP} (h : findCl l id = some r) : r.cID = id := by
  have := List.find?_some h
  simpa using this
theorem find_mem {l : List CliP} {id : List UInt8} {r : CliP} (h : findCl l id = some r) : r ∈ l := List.mem_of_find?_eq_some h
theorem unq_le : ∀ (n : Nat) (l a : List UInt8), l.length ≤ n → unq l = some a → a.length ≤ l.length
  | 0, l, a, hn, h => by
    obtain rfl : l = [] := List.eq_nil_of_length_eq_zero (by omega)
    simp [unq] at h; subst h; exact Nat.le_refl _
  | n + 1, [], a, hn, h => by simp [unq] at h; subst h; exact Nat.le_refl _
  | n + 1, c :: r, a, hn, h => by
    rw [List.length_cons] at hn ⊢
    by_cases h1 : c.toNat = 43
    · rw [unq_plus r h1] at h
      obtain ⟨b, hb, rfl⟩ := Option.map_eq_some_iff.1 h
      have := unq_le n r b (by omega) hb
      simp; omega
    · by_cases h2 : c.toNat = 37
      · by_cases h3 : r.length ≤ 1
        · rw [unq_short r h2 h3] at h; cases h
        · obtain ⟨x, y, r', rfl⟩ : ∃ x y r', r = x :: y :: r' := by
            match r, h3 with
            | [], h3 => exact absurd (Nat.zero_le _) h3
            | [_], h3 => exact absurd (Nat.le_refl _) h3
            | x :: y :: r', _ => exact ⟨x, y, r', rfl⟩
          · have hq : unq (c :: x :: y :: r') = if digB x && digB y then (unq r').map (hexByte x y :: ·) else none := by
              rw [unq, if_neg h1, if_pos h2]
            rw [hq] at h
            split at h
            · obtain ⟨b, hb, rfl⟩ := Option.map_eq_some_iff.1 h
              simp only [List.length_cons] at hn ⊢
              have := unq_le n r' b (by omega) hb
              omega
            · cases h
      · have hq : unq (c :: r) = (unq r).map (c :: ·) := unq_same r h1 h2
        rw [hq] at h
        obtain ⟨b, hb, rfl⟩ := Option.map_eq_some_iff.1 h
        have := unq_le n r b (by omega) hb
        simp; omega
theorem pairL_le {p : List UInt8} {x : List UInt8 × List UInt8} (h : pairL p = some x) : x.1.length ≤ p.length ∧ x.2.length ≤ p.length := by
  unfold pairL at h
  split at h
  · rename_i a b ha hb
    obtain rfl := Option.some.inj h
    have h1 := unq_le _ _ a (Nat.le_refl _) ha
    have h2 := unq_le _ _ b (Nat.le_refl _) hb
    rw [List.length_take] at h1
    rw [List.length_drop] at h2
    exact ⟨by show a.length ≤ _; omega, by show b.length ≤ _; omega⟩
  · cases h
theorem pairsL_le {m : Nat} : ∀ (ps : List (List UInt8)) (xs : PL), (∀ p ∈ ps, p.length ≤ m) → pairsL ps = some xs → ∀ x ∈ xs, x.1.length ≤ m ∧ x.2.length ≤ m
  | [], xs, _, h => by simp [pairsL] at h; subst h; intro x hx; cases hx
  | p :: r, xs, hm, h => by
    rw [pairsL_cons] at h
    split at h
    · rename_i y ys hy hys
      obtain rfl := Option.some.inj h
      intro x hx
      rcases List.mem_cons.1 hx with rfl | hx
      · have := pairL_le hy
        have := hm p (List.mem_cons_self ..)
        omega
      · exact pairsL_le r ys (fun q hq => hm q (List.mem_cons_of_mem _ hq)) hys x hx
    · cases h
/-- the pairs of a form are few, and short -/
theorem parseP_le (q : List UInt8) : (parseP q).length ≤ 64 ∧ ∀ x ∈ parseP q, x.1.length ≤ 4096 ∧ x.2.length ≤ 4096 := by
  unfold parseP
  split
  · exact ⟨Nat.zero_le _, fun x hx => by cases hx⟩
  · split
    · exact ⟨Nat.zero_le _, fun x hx => by cases hx⟩
    · rename_i h1 ps hps
      split
      · exact ⟨Nat.zero_le _, fun x hx => by cases hx⟩
      · refine ⟨by omega, fun x hx => ?_⟩
        refine pairsL_le (m := 4096) _ _ (fun p hp => ?_) hps x hx
        have := splitL_each 38 q p (List.mem_filter.1 hp).1
        omega
theorem gP_le (q k : List UInt8) : (gP (parseP q) k).length ≤ 4096 := by
  unfold gP getL
  cases h : (parseP q).find? (fun p => p.1 == k) with
  | none => simp
  | some p => simpa using ((parseP_le q).2 p (List.mem_of_find?_eq_some h)).2
end Go.Proofs.YtlcpehmdhnakpaaDoor
namespace Go.Proofs.YtlcpehmdhnakpaaDoor
variable {P : Program} {ops : Array Oper} {Q : Exit → Act → World → Prop} {md : Region.Mode} {S S' : World → Prop}
theorem wpAnyH_more (h : ∀ w, S' w → S w) : ∀ (fuel : Nat) (listed : Array Bool) (a : Act) (w : World), wpAnyH P md ops Q S' fuel listed a w → wpAnyH P md ops Q S fuel listed a w
  | 0, _, _, _, hw => hw
  | fuel + 1, _, _, _, hw => ⟨hw.1, fun i hi => wpOp_mono (fun a' w' h' => ⟨h w' h'.1, wpAnyH_more h fuel _ a' w' h'.2⟩) (hw.2 i hi)⟩
end Go.Proofs.YtlcpehmdhnakpaaDoor
namespace Go.Proofs.YtlcpehmdhnakpaaDoor
open Go.RowKit
set_option linter.unusedVariables false
set_option linter.unusedSimpArgs false

theorem text_eq {x y : List UInt8} (h : x = y) : (x == y) = true := by simpa using h
theorem text_ne {x y : List UInt8} (h : x ≠ y) : (x == y) = false := by simpa using h

def setK3 (w : World) (b : Nat) (c0 c1 c2 : Value) : World := (((w.setCell ⟨b, 0, none⟩ c0).setCell ⟨b, 1, none⟩ c1).setCell ⟨b, 2, none⟩ c2)
theorem setK3_here {w : World} {b : Nat} {c0 c1 c2 x0 x1 x2 : Value} {t : TypeId} {fr : Nat × Nat} (h : w.heap[b]? = some (.cells #[x0, x1, x2] t fr)) : (setK3 w b c0 c1 c2).heap[b]? = some (.cells #[c0, c1, c2] t fr) := by
  have := set_here (o := 2) (set_here (o := 1) (set_here (o := 0) h c0) c1) c2
  unfold setK3
  simpa using this
theorem setK3_below {w w' : World} {b B : Nat} (h : Below B w w') (hb : B ≤ b) (c0 c1 c2 : Value) : Below B w (setK3 w' b c0 c1 c2) := by
  unfold setK3
  exact ((h.setCell (p := ⟨b, 0, none⟩) hb c0).setCell (p := ⟨b, 1, none⟩) hb c1).setCell (p := ⟨b, 2, none⟩) hb c2
theorem cellsK3_of {w : World} {b : Nat} {c0 c1 c2 : Value} {t : TypeId} (h : w.heap[b]? = some (.cells #[c0, c1, c2] t)) : (w.cell? ⟨b, 0, none⟩ = some c0 ∧ w.cell? ⟨b, 1, none⟩ = some c1 ∧ w.cell? ⟨b, 2, none⟩ = some c2) ∧ (w.frozen? ⟨b, 0, none⟩ = false ∧ w.frozen? ⟨b, 1, none⟩ = false ∧ w.frozen? ⟨b, 2, none⟩ = false) :=
  ⟨⟨cell_here h, cell_here h, cell_here h⟩, ⟨frozen_here h _, frozen_here h _, frozen_here h _⟩⟩
def setK5 (w : World) (b : Nat) (c0 c1 c2 c3 c4 : Value) : World := (((((w.setCell ⟨b, 0, none⟩ c0).setCell ⟨b, 1, none⟩ c1).setCell ⟨b, 2, none⟩ c2).setCell ⟨b, 3, none⟩ c3).setCell ⟨b, 4, none⟩ c4)
theorem setK5_here {w : World} {b : Nat} {c0 c1 c2 c3 c4 x0 x1 x2 x3 x4 : Value} {t : TypeId} {fr : Nat × Nat} (h : w.heap[b]? = some (.cells #[x0, x1, x2, x3, x4] t fr)) : (setK5 w b c0 c1 c2 c3 c4).heap[b]? = some (.cells #[c0, c1, c2, c3, c4] t fr) := by
  have := set_here (o := 4) (set_here (o := 3) (set_here (o := 2) (set_here (o := 1) (set_here (o := 0) h c0) c1) c2) c3) c4
  unfold setK5
  simpa using this
theorem setK5_below {w w' : World} {b B : Nat} (h : Below B w w') (hb : B ≤ b) (c0 c1 c2 c3 c4 : Value) : Below B w (setK5 w' b c0 c1 c2 c3 c4) := by
  unfold setK5
  exact ((((h.setCell (p := ⟨b, 0, none⟩) hb c0).setCell (p := ⟨b, 1, none⟩) hb c1).setCell (p := ⟨b, 2, none⟩) hb c2).setCell (p := ⟨b, 3, none⟩) hb c3).setCell (p := ⟨b, 4, none⟩) hb c4
theorem cellsK5_of {w : World} {b : Nat} {c0 c1 c2 c3 c4 : Value} {t : TypeId} (h : w.heap[b]? = some (.cells #[c0, c1, c2, c3, c4] t)) : (w.cell? ⟨b, 0, none⟩ = some c0 ∧ w.cell? ⟨b, 1, none⟩ = some c1 ∧ w.cell? ⟨b, 2, none⟩ = some c2 ∧ w.cell? ⟨b, 3, none⟩ = some c3 ∧ w.cell? ⟨b, 4, none⟩ = some c4) ∧ (w.frozen? ⟨b, 0, none⟩ = false ∧ w.frozen? ⟨b, 1, none⟩ = false ∧ w.frozen? ⟨b, 2, none⟩ = false ∧ w.frozen? ⟨b, 3, none⟩ = false ∧ w.frozen? ⟨b, 4, none⟩ = false) :=
  ⟨⟨cell_here h, cell_here h, cell_here h, cell_here h, cell_here h⟩, ⟨frozen_here h _, frozen_here h _, frozen_here h _, frozen_here h _, frozen_here h _⟩⟩
def setK7 (w : World) (b : Nat) (c0 c1 c2 c3 c4 c5 c6 : Value) : World := (((((((w.setCell ⟨b, 0, none⟩ c0).setCell ⟨b, 1, none⟩ c1).setCell ⟨b, 2, none⟩ c2).setCell ⟨b, 3, none⟩ c3).setCell ⟨b, 4, none⟩ c4).setCell ⟨b, 5, none⟩ c5).setCell ⟨b, 6, none⟩ c6)
theorem setK7_here {w : World} {b : Nat} {c0 c1 c2 c3 c4 c5 c6 x0 x1 x2 x3 x4 x5 x6 : Value} {t : TypeId} {fr : Nat × Nat} (h : w.heap[b]? = some (.cells #[x0, x1, x2, x3, x4, x5, x6] t fr)) : (setK7 w b c0 c1 c2 c3 c4 c5 c6).heap[b]? = some (.cells #[c0, c1, c2, c3, c4, c5, c6] t fr) := by
  have := set_here (o := 6) (set_here (o := 5) (set_here (o := 4) (set_here (o := 3) (set_here (o := 2) (set_here (o := 1) (set_here (o := 0) h c0) c1) c2) c3) c4) c5) c6
  unfold setK7
  simpa using this
theorem setK7_below {w w' : World} {b B : Nat} (h : Below B w w') (hb : B ≤ b) (c0 c1 c2 c3 c4 c5 c6 : Value) : Below B w (setK7 w' b c0 c1 c2 c3 c4 c5 c6) := by
  unfold setK7
  exact ((((((h.setCell (p := ⟨b, 0, none⟩) hb c0).setCell (p := ⟨b, 1, none⟩) hb c1).setCell (p := ⟨b, 2, none⟩) hb c2).setCell (p := ⟨b, 3, none⟩) hb c3).setCell (p := ⟨b, 4, none⟩) hb c4).setCell (p := ⟨b, 5, none⟩) hb c5).setCell (p := ⟨b, 6, none⟩) hb c6
theorem cellsK7_of {w : World} {b : Nat} {c0 c1 c2 c3 c4 c5 c6 : Value} {t : TypeId} (h : w.heap[b]? = some (.cells #[c0, c1, c2, c3, c4, c5, c6] t)) : (w.cell? ⟨b, 0, none⟩ = some c0 ∧ w.cell? ⟨b, 1, none⟩ = some c1 ∧ w.cell? ⟨b, 2, none⟩ = some c2 ∧ w.cell? ⟨b, 3, none⟩ = some c3 ∧ w.cell? ⟨b, 4, none⟩ = some c4 ∧ w.cell? ⟨b, 5, none⟩ = some c5 ∧ w.cell? ⟨b, 6, none⟩ = some c6) ∧ (w.frozen? ⟨b, 0, none⟩ = false ∧ w.frozen? ⟨b, 1, none⟩ = false ∧ w.frozen? ⟨b, 2, none⟩ = false ∧ w.frozen? ⟨b, 3, none⟩ = false ∧ w.frozen? ⟨b, 4, none⟩ = false ∧ w.frozen? ⟨b, 5, none⟩ = false ∧ w.frozen? ⟨b, 6, none⟩ = false) :=
  ⟨⟨cell_here h, cell_here h, cell_here h, cell_here h, cell_here h, cell_here h, cell_here h⟩, ⟨frozen_here h _, frozen_here h _, frozen_here h _, frozen_here h _, frozen_here h _, frozen_here h _, frozen_here h _⟩⟩
/-- what Client says -/
def CliSays (w : World) (l : List CliP) (id : List UInt8) (e : Ending) : Prop := match findCl l id with
  | some r => ∃ u, e = .returned (.tuple #[.agg #[tv r.cID, tv r.cSecret, u], .bool true]) ∧ RdT w u r.cReds
  | none => e = .returned (.tuple #[.agg #[.string ⟨#[]⟩, .string ⟨#[]⟩, .slice none 0 0], .bool false])
set_option maxRecDepth 100000 in
set_option maxHeartbeats 8000000 in
theorem refClientW_any (x : CfgP) (A : Option Addr) (n c : Nat) (A' : Option Addr) (n' c' : Nat) (id : List UInt8) (w0 w : World) (h : CfgIs w0 x A n c A' n' c') (hb00 : Below w0.heap.size w0 w) (hn : n ≤ 200000000000000) :
    Calls Tryd.prog 11 #[x.val A n c A' n' c', .string ⟨id.toArray⟩] w fun e w' => CliSays w0 x.gClients id e ∧ Below w.heap.size w w' := by
  obtain ⟨IS, hIS⟩ : ∃ z : ByteArray, (⟨x.gIssuer.toArray⟩ : ByteArray) = z := ⟨_, rfl⟩
  obtain ⟨KI, hKI⟩ : ∃ z : ByteArray, (⟨x.gKeyID.toArray⟩ : ByteArray) = z := ⟨_, rfl⟩
  obtain ⟨KS, hKS⟩ : ∃ z : ByteArray, (⟨x.gKeySecret.toArray⟩ : ByteArray) = z := ⟨_, rfl⟩
  have hv : x.val A n c A' n' c' = .agg #[.string IS, .string KI, .string KS, .slice A n c, .slice A' n' c'] := by unfold CfgP.val tv; rw [hIS, hKI, hKS]
  rw [hv]
  obtain ⟨l, hl⟩ : ∃ l, x.gClients = l := ⟨_, rfl⟩
  obtain ⟨hn1, hn2, hc1, hc2⟩ := h
  rw [hl] at hn1 hc1 ⊢
  obtain ⟨W2, hW2⟩ : ∃ W2, W2 = (w.alloc (.cells #[.string IS, .string KI, .string KS, .slice A n c, .slice A' n' c'] 27)).alloc (.cells #[.string ⟨#[]⟩, .string ⟨#[]⟩, .slice none 0 0] 43) := ⟨_, rfl⟩
  have hb0 : Below w.heap.size w W2 := by rw [hW2]; exact ((Below.refl _ _).alloc (Nat.le_refl _) _).alloc (by simp) _
  have x1 : W2.heap[w.heap.size]? = some (.cells #[.string IS, .string KI, .string KS, .slice A n c, .slice A' n' c'] 27 (0, 0)) := by rw [hW2]; exact alloc_block (heap_alloc_last w _)
  have x2 : W2.heap[w.heap.size + 1]? = some (.cells #[.string ⟨#[]⟩, .string ⟨#[]⟩, .slice none 0 0] 43 (0, 0)) := by rw [hW2]; exact fresh_at _ (by simp)
  have hrd := hc1
  have HBZ := Lib.hid (hb00.chain hb0)
  have HRD := Lib.hid hrd; have HW2 := Lib.hid hW2; have HB0 := Lib.hid hb0; have X1 := Lib.hid x1; have X2 := Lib.hid x2; have HN := Lib.hid hn1
  clear hv hIS hKI hKS hl hn1 hn2 hc1 hc2 hb0 x1 x2 hW2 hrd hb00
  go_enter Tryd.func11, Tryd.ntmps11
  go_wp2_with fail
  rw [← HW2.out]
  go_loop [6] (fun i => ∃ j : Nat, j ≤ n ∧ i = .int .i64 j ∧ Hid (∀ q (hq : q < l.length), q < j → decide (l[q].cID = id) = false)) (fun i => n - (intOf i).toNat)
  case atStart => exact ⟨0, Nat.zero_le _, rfl, Lib.hid (fun q hq h => absurd h (Nat.not_lt_zero _))⟩
  case round =>
    obtain ⟨j, hj, rfl, hno⟩ := hrel
    obtain ⟨⟨e0, e1, e2, e3, e4⟩, -⟩ := cellsK5_of X1.out
    obtain ⟨⟨p0, p1, p2⟩, ⟨q0, q1, q2⟩⟩ := cellsK3_of X2.out
    by_cases hlt : j < n
    · have hjl : j < l.length := by have := HN.out; omega
      have hjr : decide ((j : Int) < n) = true := by simp; omega
      obtain ⟨g, o, u, rfl, hg, c0, c1, c2, ht⟩ := HRD.out.at j hjl
      have c0 := (HBZ.out.cell (p := ⟨g, o + j * 3, none⟩) hg).trans c0
      have c1 := (HBZ.out.cell (p := ⟨g, o + j * 3 + 1, none⟩) hg).trans c1
      have c2 := (HBZ.out.cell (p := ⟨g, o + j * 3 + 2, none⟩) hg).trans c2
      obtain ⟨r, hr⟩ : ∃ r, l[j] = r := ⟨_, rfl⟩
      have hgl : l[j] = r := hr
      rw [hr] at c0 c1 ht
      obtain ⟨AR, cr, rfl, hcr, har⟩ := ht
      have ht : RdT w0 (.slice AR r.cReds.length cr) r.cReds := ⟨AR, cr, rfl, hcr, har⟩
      obtain ⟨nr, hnr⟩ : ∃ z, r.cReds.length = z := ⟨_, rfl⟩
      rw [hnr] at ht c2
      clear hcr har hnr
      have hj0 : (0 : Int) ≤ j := by omega
      have hj1 : (j : Int) < n := by omega
      by_cases hid : r.cID = id
      · have hf : findCl l id = some r := by
          rw [← hgl]
          exact find_some hjl hno.out (by rw [hgl]; simpa using hid)
        have hee := text_eq hid
        have HF := Lib.hid hf
        clear hr hgl hf hid
        unfold tv at c0 c1
        go_wp2_with fail
        obtain ⟨wf, hwf⟩ : ∃ wf, wf = setK3 W2 (w.heap.size + 1) (.string ⟨r.cID.toArray⟩) (.string ⟨r.cSecret.toArray⟩) (.slice AR nr cr) := ⟨_, rfl⟩
        change bodyPost _ _ _ _ _ (setK3 W2 (w.heap.size + 1) (.string ⟨r.cID.toArray⟩) (.string ⟨r.cSecret.toArray⟩) (.slice AR nr cr))
        rw [← hwf]
        have hy : wf.heap[w.heap.size + 1]? = some (.cells #[.string ⟨r.cID.toArray⟩, .string ⟨r.cSecret.toArray⟩, .slice AR nr cr] 43 (0, 0)) := by rw [hwf]; exact setK3_here X2.out
        have hbf : Below (w.heap.size + 1) W2 wf := by rw [hwf]; exact setK3_below (Below.refl _ _) (Nat.le_refl _) (.string ⟨r.cID.toArray⟩) (.string ⟨r.cSecret.toArray⟩) (.slice AR nr cr)
        obtain ⟨⟨y0, y1, y2⟩, -⟩ := cellsK3_of hy
        have HBF := Lib.hid (HB0.out.trans (hbf.mono (Nat.le_succ _)))
        have HT := Lib.hid ht
        clear hwf hy hbf p0 p1 p2 q0 q1 q2
        refine bodyPost_ret (v := .tuple #[.agg #[.string ⟨r.cID.toArray⟩, .string ⟨r.cSecret.toArray⟩, .slice AR nr cr], .bool true]) (by simp [results, Tryd.results11, go_sem, y0, y1, y2]) rfl ?_
        refine ⟨?_, HBF.out⟩
        unfold CliSays
        rw [HF.out]
        exact ⟨_, rfl, HT.out⟩
      · have hee := text_ne hid
        have hnx : ∀ q (hq : q < l.length), q < j + 1 → decide (l[q].cID = id) = false := fun q hq h => by
          by_cases e : q = j
          · subst e; rw [hgl]; simpa using hid
          · exact hno.out q hq (by omega)
        have HNX := Lib.hid hnx
        clear hr hgl hnx hid hno
        unfold tv at c0 c1
        go_wp2_with fail
        exact ⟨⟨j + 1, by omega, by go_num, HNX⟩, by simp [intOf]; omega⟩
    · obtain rfl : n = j := by omega
      have hjr : decide ((n : Int) < n) = false := by simp
      have hf : findCl l id = none := find_none hno.out (by have := HN.out; omega)
      have HF := Lib.hid hf
      clear hf hno
      go_wp2_with fail
      obtain ⟨wf, hwf⟩ : ∃ wf, wf = setK3 W2 (w.heap.size + 1) (.string ⟨#[]⟩) (.string ⟨#[]⟩) (.slice none 0 0) := ⟨_, rfl⟩
      change bodyPost _ _ _ _ _ (setK3 W2 (w.heap.size + 1) (.string ⟨#[]⟩) (.string ⟨#[]⟩) (.slice none 0 0))
      rw [← hwf]
      have hy : wf.heap[w.heap.size + 1]? = some (.cells #[.string ⟨#[]⟩, .string ⟨#[]⟩, .slice none 0 0] 43 (0, 0)) := by rw [hwf]; exact setK3_here X2.out
      have hbf : Below (w.heap.size + 1) W2 wf := by rw [hwf]; exact setK3_below (Below.refl _ _) (Nat.le_refl _) (.string ⟨#[]⟩) (.string ⟨#[]⟩) (.slice none 0 0)
      obtain ⟨⟨y0, y1, y2⟩, -⟩ := cellsK3_of hy
      have HBF := Lib.hid (HB0.out.trans (hbf.mono (Nat.le_succ _)))
      clear hwf hy hbf p0 p1 p2 q0 q1 q2
      refine bodyPost_ret (v := .tuple #[.agg #[.string ⟨#[]⟩, .string ⟨#[]⟩, .slice none 0 0], .bool false]) (by simp [results, Tryd.results11, go_sem, y0, y1, y2]) rfl ?_
      refine ⟨?_, HBF.out⟩
      unfold CliSays
      rw [HF.out]
theorem refClient_any (x : CfgP) (A : Option Addr) (n c : Nat) (A' : Option Addr) (n' c' : Nat) (id : List UInt8) (w : World) (h : CfgIs w x A n c A' n' c') (hn : n ≤ 200000000000000) :
    Calls Tryd.prog 11 #[x.val A n c A' n' c', .string ⟨id.toArray⟩] w fun e w' => CliSays w x.gClients id e ∧ Below w.heap.size w w' :=
  refClientW_any x A n c A' n' c' id w w h (Below.refl _ _) hn
end Go.Proofs.YtlcpehmdhnakpaaDoor
namespace Go.Proofs.YtlcpehmdhnakpaaDoor
open Go.RowKit
set_option linter.unusedVariables false
set_option linter.unusedSimpArgs false

set_option maxRecDepth 100000 in
set_option maxHeartbeats 8000000 in
theorem refRedirect_any (r : CliP) (A : Option Addr) (n c : Nat) (s : List UInt8) (w : World) (hn : n = r.cReds.length) (hn2 : n ≤ 200000000000000) (h : RdT w (.slice A n c) r.cReds) :
    Calls Tryd.prog 12 #[.agg #[tv r.cID, tv r.cSecret, .slice A n c], .string ⟨s.toArray⟩] w fun e w' => e = .returned (.bool (redirP r s)) ∧ Below w.heap.size w w' := by
  obtain ⟨I, hI⟩ : ∃ z : ByteArray, (⟨r.cID.toArray⟩ : ByteArray) = z := ⟨_, rfl⟩
  obtain ⟨S, hS⟩ : ∃ z : ByteArray, (⟨r.cSecret.toArray⟩ : ByteArray) = z := ⟨_, rfl⟩
  unfold tv
  rw [hI, hS]
  obtain ⟨R, hR⟩ : ∃ R, redirP r s = R := ⟨_, rfl⟩
  rw [hR]
  unfold redirP at hR
  obtain ⟨l, hl⟩ : ∃ l, r.cReds = l := ⟨_, rfl⟩
  rw [hl] at hn h hR
  obtain ⟨W2, hW2⟩ : ∃ W2, W2 = w.alloc (.cells #[.string I, .string S, .slice A n c] 43) := ⟨_, rfl⟩
  have hb0 : Below w.heap.size w W2 := by rw [hW2]; exact (Below.refl _ _).alloc (Nat.le_refl _) _
  have x1 : W2.heap[w.heap.size]? = some (.cells #[.string I, .string S, .slice A n c] 43 (0, 0)) := by rw [hW2]; exact heap_alloc_last w _
  have HRD := Lib.hid h; have HW2 := Lib.hid hW2; have HB0 := Lib.hid hb0; have X1 := Lib.hid x1; have HN := Lib.hid hn; have HR := Lib.hid hR
  clear h hW2 hb0 x1 hn hR hI hS hl
  go_enter Tryd.func12, Tryd.ntmps12
  go_wp2_with fail
  rw [← HW2.out]
  go_loop [5] (fun i => ∃ j : Nat, j ≤ n ∧ i = .int .i64 j ∧ Hid (∀ q (hq : q < l.length), q < j → decide (l[q] = s) = false)) (fun i => n - (intOf i).toNat)
  case atStart => exact ⟨0, Nat.zero_le _, rfl, Lib.hid (fun q hq h => absurd h (Nat.not_lt_zero _))⟩
  case round =>
    obtain ⟨j, hj, rfl, hno⟩ := hrel
    obtain ⟨⟨e0, e1, e2⟩, -⟩ := cellsK3_of X1.out
    by_cases hlt : j < n
    · have hjl : j < l.length := by have := HN.out; omega
      have hjr : decide ((j : Int) < n) = true := by simp; omega
      obtain ⟨g, o, rfl, hg, c0⟩ := HRD.out.at j hjl
      have c0 := (HB0.out.cell (p := ⟨g, o + j, none⟩) hg).trans c0
      obtain ⟨y, hy⟩ : ∃ y, l[j] = y := ⟨_, rfl⟩
      have hgl : l[j] = y := hy
      rw [hy] at c0
      unfold tv at c0
      have hj0 : (0 : Int) ≤ j := by omega
      have hj1 : (j : Int) < n := by omega
      by_cases hid : y = s
      · have hee := text_eq hid
        have hf : R = true := by
          rw [← HR.out, List.any_eq_true]
          exact ⟨y, by rw [← hgl]; exact List.getElem_mem hjl, by simpa using hid⟩
        clear hy hgl hid hno
        subst hf
        go_wp2_with fail
        go_ret
        exact ⟨rfl, HB0.out⟩
      · have hee := text_ne hid
        have hnx : ∀ q (hq : q < l.length), q < j + 1 → decide (l[q] = s) = false := fun q hq h => by
          by_cases e : q = j
          · subst e; rw [hgl]; simpa using hid
          · exact hno.out q hq (by omega)
        have HNX := Lib.hid hnx
        clear hy hgl hnx hid hno
        go_wp2_with fail
        exact ⟨⟨j + 1, by omega, by go_num, HNX⟩, by simp [intOf]; omega⟩
    · obtain rfl : n = j := by omega
      have hjr : decide ((n : Int) < n) = false := by simp
      have hf : R = false := by
        rw [← HR.out, List.any_eq_false]
        intro y hy
        obtain ⟨q, hq, rfl⟩ := List.mem_iff_getElem.1 hy
        have := hno.out q hq (by have := HN.out; omega)
        simpa using this
      clear hno
      subst hf
      go_wp2_with fail
      go_ret
      exact ⟨rfl, HB0.out⟩
end Go.Proofs.YtlcpehmdhnakpaaDoor
namespace Go.Proofs.YtlcpehmdhnakpaaDoor
open Go.RowKit
theorem or_join (h l : Int) (h0 : 0 ≤ h ∧ h ≤ 15) (l0 : 0 ≤ l ∧ l ≤ 15) : bits .or .u8 (h * 16) l = 16 * h + l := by
  rw [bits_join .u8 8 (by decide) wraps_u8 4 (h * 16) l (by omega) (by omega) (by omega) (by omega) (by omega) (by omega)]; omega

theorem digit_any (c : UInt8) (w : World) :
    Calls Tryd.prog 63 #[.int .u8 c.toNat] w fun e w' => e = .returned (.tuple #[.int .u8 (digN c), .bool (digB c)]) ∧ w = w' :=
  (digit_says c w).mono fun _ _ ⟨hd, hw⟩ => ⟨by
    rcases hd with ⟨h, h'⟩ | ⟨h, h'⟩
    · rw [h']; exact ret_tup (by unfold digN; rw [if_neg (by omega)]) (by simp [digB, h])
    · rw [h']; exact ret_tup (by unfold digN; rw [if_pos (by omega)]) (by simp [digB, h]), hw.symm⟩

set_option maxRecDepth 100000 in
theorem quoted_yes (x : ByteArray) (h2 : 2 ≤ x.size) (h0 : digB x[0] = true) (h1 : digB x[1] = true) (hm : x.size ≤ maxLen) (w : World) :
    Calls Tryd.prog 55 #[.string x] w fun e w' => e = .returned (.tuple #[.int .u8 (16 * digN x[0] + digN x[1]), .bool true]) ∧ w = w' := by
  unfold maxLen at hm
  obtain ⟨a0, a1⟩ := digN_bd x[0]
  obtain ⟨b0, b1⟩ := digN_bd x[1]
  go_enter Tryd.func55, Tryd.ntmps55
  go_wp2_with fail
  refine (digit_any x[0] _).mono ?_
  rintro e w' ⟨rfl, rfl⟩
  go_wp2_with fail
  refine (digit_any x[1] _).mono ?_
  rintro e w' ⟨rfl, rfl⟩
  go_wp2
  go_ret2
  exact ⟨ret_tup (or_join _ _ ⟨a0, a1⟩ ⟨b0, b1⟩) rfl, rfl⟩

set_option maxRecDepth 100000 in
theorem quoted_short (x : ByteArray) (h2 : x.size < 2) (w : World) :
    Calls Tryd.prog 55 #[.string x] w fun e w' => e = .returned (.tuple #[.int .u8 0, .bool false]) ∧ w = w' := by
  go_enter Tryd.func55, Tryd.ntmps55
  go_wp2
  go_ret2
  exact ⟨rfl, rfl⟩

set_option maxRecDepth 100000 in
theorem quoted_no (x : ByteArray) (h2 : 2 ≤ x.size) (hb : digB x[0] = false ∨ digB x[1] = false) (hm : x.size ≤ maxLen) (w : World) :
    Calls Tryd.prog 55 #[.string x] w fun e w' => e = .returned (.tuple #[.int .u8 0, .bool false]) ∧ w = w' := by
  unfold maxLen at hm
  obtain ⟨a0, a1⟩ := digN_bd x[0]
  obtain ⟨b0, b1⟩ := digN_bd x[1]
  by_cases h0 : digB x[0] = true
  · have h1 : digB x[1] = false := by rcases hb with h | h; rw [h0] at h; cases h; exact h
    clear hb
    go_enter Tryd.func55, Tryd.ntmps55
    go_wp2_with fail
    refine (digit_any x[0] _).mono ?_
    rintro e w' ⟨rfl, rfl⟩
    go_wp2_with fail
    refine (digit_any x[1] _).mono ?_
    rintro e w' ⟨rfl, rfl⟩
    go_wp2
    go_ret2
    exact ⟨rfl, rfl⟩
  · have h0 : digB x[0] = false := by simpa using h0
    clear hb
    go_enter Tryd.func55, Tryd.ntmps55
    go_wp2_with fail
    refine (digit_any x[0] _).mono ?_
    rintro e w' ⟨rfl, rfl⟩
    go_wp2_with fail
    refine (digit_any x[1] _).mono ?_
    rintro e w' ⟨rfl, rfl⟩
    go_wp2
    all_goals
      go_ret2
      exact ⟨rfl, rfl⟩
end Go.Proofs.YtlcpehmdhnakpaaDoor
namespace Go.Proofs.YtlcpehmdhnakpaaDoor
open Go.RowKit
theorem ret_byte {c : UInt8} {a : Int} {x : Bool} (h : a = c.toNat) : Ending.returned (.tuple #[.int .u8 a, .bool x]) = .returned (.tuple #[.int .u8 c.toNat, .bool x]) := by rw [h]

/-- what Unquote answers -/
def UnqSays (l : List UInt8) (e : Ending) : Prop :=
  (∃ o, unq l = some o ∧ e = .returned (.tuple #[.string ⟨o.toArray⟩, .int .i64 0])) ∨ (unq l = none ∧ e = .returned (.tuple #[.string ⟨#[]⟩, .int .i64 2]))

theorem UnqSays.yes {l o : List UInt8} {e : Ending} (hd : UnqSays l e) (h : unq l = some o) : e = .returned (.tuple #[.string ⟨o.toArray⟩, .int .i64 0]) := by
  rcases hd with ⟨o', h', he⟩ | ⟨h', _⟩
  · rw [h] at h'; injection h' with h'; rw [he, h']
  · rw [h] at h'; cases h'
theorem UnqSays.no {l : List UInt8} {e : Ending} (hd : UnqSays l e) (h : unq l = none) : e = .returned (.tuple #[.string ⟨#[]⟩, .int .i64 2]) := by
  rcases hd with ⟨o', h', he⟩ | ⟨h', he⟩
  · rw [h] at h'; cases h'
  · exact he
theorem quotedT_yes (s : ByteArray) (k : Nat) (h : k + 2 < s.size) (hs : s.size ≤ maxLen) (ha : digB s[k + 1] = true) (hb : digB s[k + 2] = true) (w : World) :
    Calls Tryd.prog 55 #[.string (s.extract (k + 1) s.size)] w fun e w' => e = .returned (.tuple #[.int .u8 ((hexByte s[k + 1] s[k + 2]).toNat : Int), .bool true]) ∧ w = w' := by
  have hz : 2 ≤ (s.extract (k + 1) s.size).size := by rw [ext_size]; omega
  have e0 : (s.extract (k + 1) s.size)[0] = s[k + 1] := ext_get s (k + 1) 0 _ _
  have e1 : (s.extract (k + 1) s.size)[1] = s[k + 2] := ext_get s (k + 1) 1 _ _
  refine (quoted_yes _ hz (by rw [e0]; exact ha) (by rw [e1]; exact hb) (by rw [ext_size]; omega) w).mono fun e w' ⟨he, hw⟩ => ⟨?_, hw⟩
  rw [he, e0, e1]
  exact ret_byte (hexByte_toNat _ _).symm
theorem quotedT_no (s : ByteArray) (k : Nat) (h : k + 2 < s.size) (hs : s.size ≤ maxLen) (ha : digB s[k + 1] = false ∨ digB s[k + 2] = false) (w : World) :
    Calls Tryd.prog 55 #[.string (s.extract (k + 1) s.size)] w fun e w' => e = .returned (.tuple #[.int .u8 0, .bool false]) ∧ w = w' := by
  have hz : 2 ≤ (s.extract (k + 1) s.size).size := by rw [ext_size]; omega
  have e0 : (s.extract (k + 1) s.size)[0] = s[k + 1] := ext_get s (k + 1) 0 _ _
  have e1 : (s.extract (k + 1) s.size)[1] = s[k + 2] := ext_get s (k + 1) 1 _ _
  exact quoted_no _ hz (by rw [e0, e1]; exact ha) (by rw [ext_size]; omega) w
theorem quotedT_short (s : ByteArray) (k : Nat) (h : s.size ≤ k + 2) (w : World) :
    Calls Tryd.prog 55 #[.string (s.extract (k + 1) s.size)] w fun e w' => e = .returned (.tuple #[.int .u8 0, .bool false]) ∧ w = w' :=
  quoted_short _ (by rw [ext_size]; omega) w

set_option maxRecDepth 100000 in
theorem unquote_says (s : ByteArray) (hs : s.size ≤ 140737488351232) (w : World) :
    Calls Tryd.prog 44 #[.string s] w fun e w' => UnqSays s.data.toList e ∧ Below w.heap.size w w' := by
  obtain ⟨i0, hi, hz0, hz1, hz2⟩ := info_parts Tryd.infoByte
  go_enter Tryd.func44, Tryd.ntmps44
  go_wp2_with (at_make; refine wpList_make_own _ rfl _ _ 62 rfl w.heap.size 5 i0 _ 1 Tryd.underlying62 hi hz0 hz1 _ _ _ s.size rfl rfl (by omega) (by rw [hz2]; omega) (by unfold maxLen; omega) (Nat.le_refl _) ?_)
  intro w0 hown0 hg0
  have hb0 : Below w.heap.size w w0 := (Below.refl _ _).grown hg0 (Nat.le_refl _) (by simp)
  go_wp2
  go_loopw [4, 5] (fun v i wr => ∃ (k : Nat) (acc : List UInt8), k ≤ s.size ∧ i = .int .i64 k ∧ Buf wr w.heap.size v acc ∧ acc.length ≤ k ∧ UnqAt s.data.toList k acc ∧ Below w.heap.size w wr) (fun _ i _ => s.size - (intOf i).toNat)
  case atStart => exact ⟨0, [], Nat.zero_le _, rfl, hown0, Nat.zero_le _, unqAt_start _, hb0⟩
  case round =>
    obtain ⟨k, acc, hk, rfl, hown, hal, hat, hb⟩ := hrel
    have HA := Lib.hid hat; clear hat
    have hbs := hb.size
    by_cases hlt : k < s.size
    · by_cases h43 : s[k].toNat = 43
      · have c43 : ((s[k].toNat : Int) == 43) = true := by simp; omega
        have H43 := Lib.hid h43; clear h43
        go_wp2_with (at_builtin; refine wpList_append_own _ rfl (.tmp 28) (.tmp 29) 62 rfl w.heap.size 5 i0 _ 1 1 Tryd.underlying62 hi hz0 hz1 hz2 rfl (by decide) _ _ _ rfl (World.ownsRow.alloc hown _) ⟨_, 0, none⟩ 1 1 [.int .u8 32] rfl rfl (new_cells _ #[_] _) (one_cell _) (by unfold maxLen; omega) (by omega) (by simp; omega) ?_)
        intro v' w1 hown' hg' _
        have hb1 : Below w.heap.size w w1 := (hb.alloc hbs _).grown hg' (by simp; omega) (fun j hj => (hown.lt j hj).1)
        go_wp2
        go_roundw
        case rel => exact ⟨k + 1, acc ++ [32], by omega, by go_num, Buf.cut hown' (by simp) (by rw [cells_app]; rfl), by simp; omega, unqAt_plus HA.out hlt H43.out, hb1⟩
        case measure => simp [intOf]; omega
      · have c43 : ((s[k].toNat : Int) == 43) = false := by simp; omega
        have H43 := Lib.hid h43; clear h43
        by_cases h37 : s[k].toNat = 37
        · have c37 : ((s[k].toNat : Int) == 37) = true := by simp; omega
          have H37 := Lib.hid h37; clear h37
          have hmx : s.size ≤ maxLen := by unfold maxLen; omega
          by_cases h2 : k + 2 < s.size
          · by_cases hd : digB s[k + 1] = true ∧ digB s[k + 2] = true
            · have HD := Lib.hid hd; clear hd
              go_wp2_with (first
                | (go_at_call 55; refine (quotedT_yes s k h2 hmx HD.out.1 HD.out.2 _).mono ?_; rintro e w' ⟨rfl, rfl⟩)
                | (at_builtin; refine wpList_append_own _ rfl (.tmp 43) (.tmp 45) 62 rfl w.heap.size 5 i0 _ 1 1 Tryd.underlying62 hi hz0 hz1 hz2 rfl (by decide) _ _ _ rfl (World.ownsRow.alloc hown _) ⟨_, 0, none⟩ 1 1 [.int .u8 (hexByte s[k + 1] s[k + 2]).toNat] rfl rfl (new_cells _ #[_] _) (one_cell _) (by unfold maxLen; omega) (by omega) (by simp; omega) ?_))
              intro v' w1 hown' hg' _
              have hb1 : Below w.heap.size w w1 := (hb.alloc hbs _).grown hg' (by simp; omega) (fun j hj => (hown.lt j hj).1)
              go_wp2
              go_roundw
              case rel => exact ⟨k + 3, acc ++ [hexByte s[k + 1] s[k + 2]], by omega, by go_num, Buf.cut hown' (by simp) (by rw [cells_app]; rfl), by simp; omega, unqAt_hex HA.out h2 H37.out HD.out.1 HD.out.2, hb1⟩
              case measure => simp [intOf]; omega
            · have hd' : digB s[k + 1] = false ∨ digB s[k + 2] = false := by
                rcases Bool.eq_false_or_eq_true (digB s[k + 1]) with h | h
                · rcases Bool.eq_false_or_eq_true (digB s[k + 2]) with h' | h'
                  · exact absurd ⟨h, h'⟩ hd
                  · exact Or.inr h'
                · exact Or.inl h
              have HD := Lib.hid hd'; clear hd hd'
              go_wp2_with (go_at_call 55; refine (quotedT_no s k h2 hmx HD.out _).mono ?_; rintro e w' ⟨rfl, rfl⟩)
              go_ret2
              exact ⟨Or.inr ⟨unqAt_bad HA.out h2 H37.out HD.out, rfl⟩, hb⟩
          · go_wp2_with (go_at_call 55; refine (quotedT_short s k (by omega) _).mono ?_; rintro e w' ⟨rfl, rfl⟩)
            go_ret2
            exact ⟨Or.inr ⟨unqAt_short HA.out hlt (by show s.size ≤ k + 2; omega) H37.out, rfl⟩, hb⟩
        · have c37 : ((s[k].toNat : Int) == 37) = false := by simp; omega
          have H37 := Lib.hid h37; clear h37
          go_wp2_with (at_builtin; refine wpList_append_own _ rfl (.tmp 22) (.tmp 24) 62 rfl w.heap.size 5 i0 _ 1 1 Tryd.underlying62 hi hz0 hz1 hz2 rfl (by decide) _ _ _ rfl (World.ownsRow.alloc hown _) ⟨_, 0, none⟩ 1 1 [.int .u8 s[k].toNat] rfl rfl (new_cells _ #[_] _) (one_cell _) (by unfold maxLen; omega) (by omega) (by simp; omega) ?_)
          intro v' w1 hown' hg' _
          have hb1 : Below w.heap.size w w1 := (hb.alloc hbs _).grown hg' (by simp; omega) (fun j hj => (hown.lt j hj).1)
          go_wp2
          go_roundw
          case rel => exact ⟨k + 1, acc ++ [s[k]], by omega, by go_num, Buf.cut hown' (by simp) (by rw [cells_app]; rfl), by simp; omega, unqAt_same HA.out hlt H43.out H37.out, hb1⟩
          case measure => simp [intOf]; omega
    · have hke : k = s.size := by omega
      subst hke
      have hcv := hown.text
      go_wp2
      go_ret2
      exact ⟨Or.inl ⟨acc, unqAt_end HA.out, rfl⟩, hb⟩
theorem unquote_yes (s : ByteArray) (o : List UInt8) (h : unq s.data.toList = some o) (hs : s.size ≤ 140737488351232) (w : World) :
    Calls Tryd.prog 44 #[.string s] w fun e w' => e = .returned (.tuple #[.string ⟨o.toArray⟩, .int .i64 0]) ∧ Below w.heap.size w w' :=
  (unquote_says s hs w).mono fun _ _ ⟨hd, hw⟩ => ⟨hd.yes h, hw⟩
theorem unquote_no (s : ByteArray) (h : unq s.data.toList = none) (hs : s.size ≤ 140737488351232) (w : World) :
    Calls Tryd.prog 44 #[.string s] w fun e w' => e = .returned (.tuple #[.string ⟨#[]⟩, .int .i64 2]) ∧ Below w.heap.size w w' :=
  (unquote_says s hs w).mono fun _ _ ⟨hd, hw⟩ => ⟨hd.no h, hw⟩
end Go.Proofs.YtlcpehmdhnakpaaDoor
namespace Go.Proofs.YtlcpehmdhnakpaaDoor
open Go.RowKit

/-- what the reference answers -/
def RefUnqSays (l : List UInt8) (e : Ending) : Prop :=
  (∃ o, unq l = some o ∧ e = .returned (.tuple #[.string ⟨o.toArray⟩, .bool true])) ∨ (unq l = none ∧ e = .returned (.tuple #[.string ⟨#[]⟩, .bool false]))

set_option maxHeartbeats 1000000 in
set_option maxRecDepth 100000 in
theorem refUnquote_says (s : ByteArray) (hs : s.size ≤ 140737488351232) (w : World) :
    Calls Tryd.prog 39 #[.string s] w fun e w' => RefUnqSays s.data.toList e ∧ Below w.heap.size w w' := by
  obtain ⟨i0, hi, hz0, hz1, hz2⟩ := info_parts Tryd.infoByte
  go_enter Tryd.func39, Tryd.ntmps39
  go_wp2
  go_loopw [4, 5] (fun v i wr => ∃ (k : Nat) (acc : List UInt8), k ≤ s.size ∧ i = .int .i64 k ∧ Buf wr w.heap.size v acc ∧ acc.length ≤ k ∧ UnqAt s.data.toList k acc ∧ Below w.heap.size w wr) (fun _ i _ => s.size - (intOf i).toNat)
  case atStart => exact ⟨0, [], Nat.zero_le _, rfl, World.ownsRow_nil _ _ _ _, Nat.zero_le _, unqAt_start _, Below.refl _ _⟩
  case round =>
    obtain ⟨k, acc, hk, rfl, hown, hal, hat, hb⟩ := hrel
    have HA := Lib.hid hat; clear hat
    have hbs := hb.size
    by_cases hlt : k < s.size
    · by_cases h43 : s[k].toNat = 43
      · have c43 : ((s[k].toNat : Int) == 43) = true := by simp; omega
        have c37 : ((s[k].toNat : Int) == 37) = false := by simp; omega
        have H43 := Lib.hid h43; clear h43
        go_wp2_with (at_builtin; refine wpList_append_own _ rfl (.tmp 58) (.tmp 60) 62 rfl w.heap.size 5 i0 _ 1 1 Tryd.underlying62 hi hz0 hz1 hz2 rfl (by decide) _ _ _ rfl (World.ownsRow.alloc hown _) ⟨_, 0, none⟩ 1 1 [.int .u8 32] rfl rfl (new_cells _ #[_] _) (one_cell _) (by unfold maxLen; omega) (by omega) (by simp; omega) ?_)
        intro v' w1 hown' hg' _
        have hb1 : Below w.heap.size w w1 := (hb.alloc hbs _).grown hg' (by simp; omega) (fun j hj => (hown.lt j hj).1)
        go_wp2
        go_roundw
        case rel => exact ⟨k + 1, acc ++ [32], by omega, by go_num, Buf.cut hown' (by simp) (by rw [cells_app]; rfl), by simp; omega, unqAt_plus HA.out hlt H43.out, hb1⟩
        case measure => simp [intOf]; omega
      · have c43 : ((s[k].toNat : Int) == 43) = false := by simp; omega
        have H43 := Lib.hid h43; clear h43
        by_cases h37 : s[k].toNat = 37
        · have c37 : ((s[k].toNat : Int) == 37) = true := by simp; omega
          have H37 := Lib.hid h37; clear h37
          by_cases h2 : k + 2 < s.size
          · have b1 := hexI_bd s[k + 1]
            have b2 := hexI_bd s[k + 2]
            by_cases hd1 : hexI s[k + 1] < 0
            · go_wp2_with (go_at_call 52; refine (hex_any _ _).mono ?_; rintro e w' ⟨rfl, rfl⟩)
              go_ret2
              exact ⟨Or.inr ⟨unqAt_bad HA.out h2 H37.out (Or.inl (by simp [digB]; exact hd1)), rfl⟩, hb⟩
            · by_cases hd2 : hexI s[k + 2] < 0
              · go_wp2_with (go_at_call 52; refine (hex_any _ _).mono ?_; rintro e w' ⟨rfl, rfl⟩)
                go_ret2
                exact ⟨Or.inr ⟨unqAt_bad HA.out h2 H37.out (Or.inr (by simp [digB]; exact hd2)), rfl⟩, hb⟩
              · have g1 : digB s[k + 1] = true := by simp [digB]; omega
                have g2 : digB s[k + 2] = true := by simp [digB]; omega
                have hby : ((hexByte s[k + 1] s[k + 2]).toNat : Int) = 16 * hexI s[k + 1] + hexI s[k + 2] := by
                  rw [hexByte_toNat, (digN_of g1).1, (digN_of g2).1]
                have G := Lib.hid (And.intro g1 g2); clear g1 g2
                have HBY := Lib.hid hby; clear hby
                go_wp2_with (go_at_call 52; refine (hex_any _ _).mono ?_; rintro e w' ⟨rfl, rfl⟩)
                have e3 : IntKind.i64.wrap (16 * hexI s[k + 1]) = 16 * hexI s[k + 1] := IntWalk.i64_in _ (by omega)
                have e4 : IntKind.i64.wrap (16 * hexI s[k + 1] + hexI s[k + 2]) = 16 * hexI s[k + 1] + hexI s[k + 2] := IntWalk.i64_in _ (by omega)
                have e5 : IntKind.u8.wrap (16 * hexI s[k + 1] + hexI s[k + 2]) = ((hexByte s[k + 1] s[k + 2]).toNat : Int) := by rw [HBY.out, IntKind.wrap_u8]; omega
                have p1 : (0 : Int) ≤ (k : Int) + 1 := by omega
                have p2 : (0 : Int) ≤ (k : Int) + 2 := by omega
                have q1 : (k : Int) + 1 < s.size := by omega
                have q2 : (k : Int) + 2 < s.size := by omega
                have e1 : IntKind.i64.wrap ((k : Int) + 1) = (k : Int) + 1 := IntWalk.i64_in _ (by omega)
                have e2 : IntKind.i64.wrap ((k : Int) + 2) = (k : Int) + 2 := IntWalk.i64_in _ (by omega)
                have t1 : ((k : Int) + 1).toNat = k + 1 := by omega
                have t2 : ((k : Int) + 2).toNat = k + 2 := by omega
                go_quiet ((go_at_call 52; exact Calls.quiet_of_same (hex_quiet _ _)))
                clear e1 e2 e3 e4 e5
                have hown2 : Buf (wr.drewN nq) w.heap.size _ acc := hown
                have hb2 : Below w.heap.size w (wr.drewN nq) := ⟨hb.os, hb.tape, hb.output, hb.size, hb.block⟩
                generalize wr.drewN nq = w2 at hown2 hb2 ⊢
                have hbs2 := hb2.size
                go_wp2_with (at_builtin; go_loud (refine wpList_append_own _ rfl (.tmp 58) (.tmp 60) 62 rfl w.heap.size 5 i0 _ 1 1 Tryd.underlying62 hi hz0 hz1 hz2 rfl (by decide) _ _ _ rfl (World.ownsRow.alloc hown2 _) ⟨_, 0, none⟩ 1 1 [.int .u8 (hexByte s[k + 1] s[k + 2]).toNat] rfl rfl (new_cells _ #[_] _) (one_cell _) (by unfold maxLen; omega) (by omega) (by simp; omega) ?_))
                intro v' w1 hown' hg' _
                have hb1 : Below w.heap.size w w1 := (hb2.alloc hbs2 _).grown hg' (by simp; omega) (fun j hj => (hown2.lt j hj).1)
                go_wp2
                go_roundw
                case rel => exact ⟨k + 3, acc ++ [hexByte s[k + 1] s[k + 2]], by omega, by go_num, Buf.cut hown' (by simp) (by rw [cells_app]; rfl), by simp; omega, unqAt_hex HA.out h2 H37.out G.out.1 G.out.2, hb1⟩
                case measure => simp [intOf]; omega
          · go_wp2_with fail
            go_ret2
            exact ⟨Or.inr ⟨unqAt_short HA.out hlt (by show s.size ≤ k + 2; omega) H37.out, rfl⟩, hb⟩
        · have c37 : ((s[k].toNat : Int) == 37) = false := by simp; omega
          have H37 := Lib.hid h37; clear h37
          go_wp2_with (at_builtin; refine wpList_append_own _ rfl (.tmp 58) (.tmp 60) 62 rfl w.heap.size 5 i0 _ 1 1 Tryd.underlying62 hi hz0 hz1 hz2 rfl (by decide) _ _ _ rfl (World.ownsRow.alloc hown _) ⟨_, 0, none⟩ 1 1 [.int .u8 s[k].toNat] rfl rfl (new_cells _ #[_] _) (one_cell _) (by unfold maxLen; omega) (by omega) (by simp; omega) ?_)
          intro v' w1 hown' hg' _
          have hb1 : Below w.heap.size w w1 := (hb.alloc hbs _).grown hg' (by simp; omega) (fun j hj => (hown.lt j hj).1)
          go_wp2
          go_roundw
          case rel => exact ⟨k + 1, acc ++ [s[k]], by omega, by go_num, Buf.cut hown' (by simp) (by rw [cells_app]; rfl), by simp; omega, unqAt_same HA.out hlt H43.out H37.out, hb1⟩
          case measure => simp [intOf]; omega
    · have hke : k = s.size := by omega
      subst hke
      have hcv := hown.text
      go_wp2
      go_ret2
      exact ⟨Or.inl ⟨acc, unqAt_end HA.out, rfl⟩, hb⟩
end Go.Proofs.YtlcpehmdhnakpaaDoor
namespace Go.Proofs.YtlcpehmdhnakpaaDoor

abbrev str (l : List UInt8) : ByteArray := ⟨l.toArray⟩
theorem str_list (l : List UInt8) : (str l).data.toList = l := rfl
theorem str_size (l : List UInt8) : (str l).size = l.length := rfl
theorem atL_drop (c : UInt8) (l : List UInt8) : (l.drop (atL c l + 1)).length ≤ l.length := by simp
theorem atL_take (c : UInt8) (l : List UInt8) : (l.take (atL c l)).length ≤ l.length := by simp; omega
end Go.Proofs.YtlcpehmdhnakpaaDoor
