/- Texts merged by program, in build order: CliVals, HeldMore, CliRef, CliRef2, CliCode, CliFit, RuleGood. -/
import Derived.Test.YtiofgepfcacgjaaDoorG01
import Derived.Deep.RegionHeld3
set_option linter.unusedVariables false
set_option linter.unusedSimpArgs false
namespace Go.Proofs.YtiofgepfcacgjaaDoor
open Go.RowKit
set_option linter.unusedVariables false
set_option linter.unusedSimpArgs false

/-- api.Client -/
structure CliP where
  cID : List UInt8
  cSecret : List UInt8
  cReds : List (List UInt8)
/-- a slice that reads as these clients -/
def RdCl (w : World) (v : Value) (l : List CliP) : Prop :=
  ∃ A c, v = .slice A l.length c ∧ l.length ≤ c ∧ ∀ k r, l[k]? = some r → ∃ g o u, A = some ⟨g, o, none⟩ ∧ g < w.heap.size ∧ w.cell? ⟨g, o + k * 3, none⟩ = some (tv r.cID) ∧ w.cell? ⟨g, o + k * 3 + 1, none⟩ = some (tv r.cSecret) ∧ w.cell? ⟨g, o + k * 3 + 2, none⟩ = some u ∧ RdT w u r.cReds
theorem RdCl.below {w w' : World} {v : Value} {l : List CliP} (h : RdCl w v l) (hb : Below w.heap.size w w') : RdCl w' v l := by
  obtain ⟨A, c, rfl, hc, h⟩ := h
  refine ⟨A, c, rfl, hc, fun k r hk => ?_⟩
  obtain ⟨g, o, u, rfl, hg, h1, h2, h3, h4⟩ := h k r hk
  have he := hb.block g hg
  exact ⟨g, o, u, rfl, Nat.lt_of_lt_of_le hg hb.size, (World.cell?_of_block he).trans h1, (World.cell?_of_block he).trans h2, (World.cell?_of_block he).trans h3, h4.below hb⟩
theorem RdCl.at {w : World} {A : Option Addr} {c n : Nat} {l : List CliP} (h : RdCl w (.slice A n c) l) (k : Nat) (hk : k < l.length) : ∃ g o u, A = some ⟨g, o, none⟩ ∧ g < w.heap.size ∧ w.cell? ⟨g, o + k * 3, none⟩ = some (tv l[k].cID) ∧ w.cell? ⟨g, o + k * 3 + 1, none⟩ = some (tv l[k].cSecret) ∧ w.cell? ⟨g, o + k * 3 + 2, none⟩ = some u ∧ RdT w u l[k].cReds := by
  obtain ⟨A', c', e, hc, hA⟩ := h
  cases e
  exact hA k _ (List.getElem?_eq_getElem hk)
/-- a slice that reads as these connectors -/
def RdCn (w : World) (v : Value) (l : List ConnP) : Prop :=
  ∃ A c, v = .slice A l.length c ∧ l.length ≤ c ∧ ∀ k r, l[k]? = some r → ∃ g o, A = some ⟨g, o, none⟩ ∧ g < w.heap.size ∧ w.cell? ⟨g, o + k * 7, none⟩ = some (tv r.fID) ∧ w.cell? ⟨g, o + k * 7 + 1, none⟩ = some (tv r.fIssuer) ∧ w.cell? ⟨g, o + k * 7 + 2, none⟩ = some (tv r.fClient) ∧
    w.cell? ⟨g, o + k * 7 + 3, none⟩ = some (tv r.fAuth) ∧ w.cell? ⟨g, o + k * 7 + 4, none⟩ = some (tv r.fSecret) ∧ w.cell? ⟨g, o + k * 7 + 5, none⟩ = some (.bool r.fOpen) ∧ w.cell? ⟨g, o + k * 7 + 6, none⟩ = some (tv r.fRules)
theorem RdCn.below {w w' : World} {v : Value} {l : List ConnP} (h : RdCn w v l) (hb : Below w.heap.size w w') : RdCn w' v l := by
  obtain ⟨A, c, rfl, hc, h⟩ := h
  refine ⟨A, c, rfl, hc, fun k r hk => ?_⟩
  obtain ⟨g, o, rfl, hg, h0, h1, h2, h3, h4, h5, h6⟩ := h k r hk
  have he := hb.block g hg
  exact ⟨g, o, rfl, Nat.lt_of_lt_of_le hg hb.size, (World.cell?_of_block he).trans h0, (World.cell?_of_block he).trans h1, (World.cell?_of_block he).trans h2, (World.cell?_of_block he).trans h3, (World.cell?_of_block he).trans h4, (World.cell?_of_block he).trans h5, (World.cell?_of_block he).trans h6⟩
theorem RdCn.at {w : World} {A : Option Addr} {c n : Nat} {l : List ConnP} (h : RdCn w (.slice A n c) l) (k : Nat) (hk : k < l.length) : ∃ g o, A = some ⟨g, o, none⟩ ∧ g < w.heap.size ∧ w.cell? ⟨g, o + k * 7, none⟩ = some (tv l[k].fID) ∧ w.cell? ⟨g, o + k * 7 + 1, none⟩ = some (tv l[k].fIssuer) ∧ w.cell? ⟨g, o + k * 7 + 2, none⟩ = some (tv l[k].fClient) ∧
    w.cell? ⟨g, o + k * 7 + 3, none⟩ = some (tv l[k].fAuth) ∧ w.cell? ⟨g, o + k * 7 + 4, none⟩ = some (tv l[k].fSecret) ∧ w.cell? ⟨g, o + k * 7 + 5, none⟩ = some (.bool l[k].fOpen) ∧ w.cell? ⟨g, o + k * 7 + 6, none⟩ = some (tv l[k].fRules) := by
  obtain ⟨A', c', e, hc, hA⟩ := h
  cases e
  exact hA k _ (List.getElem?_eq_getElem hk)
/-- api.Config -/
structure CfgP where
  gIssuer : List UInt8
  gKeyID : List UInt8
  gKeySecret : List UInt8
  gClients : List CliP
  gConns : List ConnP
def CfgIs (w : World) (x : CfgP) (A : Option Addr) (n c : Nat) (A' : Option Addr) (n' c' : Nat) : Prop := n = x.gClients.length ∧ n' = x.gConns.length ∧ RdCl w (.slice A n c) x.gClients ∧ RdCn w (.slice A' n' c') x.gConns
theorem CfgIs.below {w w' : World} {x : CfgP} {A A' : Option Addr} {n c n' c' : Nat} (h : CfgIs w x A n c A' n' c') (hb : Below w.heap.size w w') : CfgIs w' x A n c A' n' c' := ⟨h.1, h.2.1, h.2.2.1.below hb, h.2.2.2.below hb⟩
def CfgP.val (x : CfgP) (A : Option Addr) (n c : Nat) (A' : Option Addr) (n' c' : Nat) : Value := .agg #[tv x.gIssuer, tv x.gKeyID, tv x.gKeySecret, .slice A n c, .slice A' n' c']

/-- the bounds of a client's texts -/
def CliP.fit (r : CliP) : Prop := r.cID.length ≤ 200000000000000 ∧ r.cSecret.length ≤ 200000000000000 ∧ r.cReds.length * 16 ≤ 140737488355328 ∧ ∀ x ∈ r.cReds, x.length ≤ 200000000000000
/-- the bounds of a connector's texts -/
def ConnP.fit (r : ConnP) : Prop := r.fID.length ≤ 200000000000000 ∧ r.fIssuer.length ≤ 200000000000000 ∧ r.fClient.length ≤ 200000000000000 ∧ r.fAuth.length ≤ 200000000000000 ∧ r.fSecret.length ≤ 200000000000000 ∧ r.fRules.length ≤ 200000000000000
/-- the bounds of a config -/
def CfgP.fit (x : CfgP) : Prop := x.gIssuer.length ≤ 200000000000000 ∧ x.gKeyID.length ≤ 200000000000000 ∧ x.gKeySecret.length ≤ 200000000000000 ∧ x.gClients.length ≤ 200000000000000 ∧ (∀ r ∈ x.gClients, r.fit) ∧ x.gConns.length ≤ 200000000000000 ∧ ∀ r ∈ x.gConns, r.fit
/-- a config that is not too large, as the laws ask it -/
def CfgP.few (x : CfgP) : Prop := x.gIssuer.length ≤ 5000 ∧ x.gClients.length ≤ 20 ∧ x.gConns.length ≤ 20 ∧ (∀ k (hk : k < x.gClients.length), (x.gClients[k]).cReds.length ≤ 100) ∧ ∀ k (hk : k < x.gConns.length), (x.gConns[k]).fRules.length ≤ 5000
def CfgP.fitS (x : CfgP) : Prop := x.fit ∧ x.few

/-- what the chapter says -/
def findCl (l : List CliP) (id : List UInt8) : Option CliP := l.find? (fun x => decide (x.cID = id))
def findCn (l : List ConnP) (id : List UInt8) : Option ConnP := l.find? (fun x => decide (x.fID = id))
def authP (x : CfgP) (id sec : List UInt8) : Bool := match findCl x.gClients id with
  | some a => decide (a.cSecret ≠ []) && decide (a.cSecret = sec)
  | none => false
def redirP (x : CliP) (s : List UInt8) : Bool := x.cReds.any (fun y => decide (y = s))
theorem find_none {α : Type} {p : α → Bool} {l : List α} {k : Nat} (h : ∀ j (hj : j < l.length), j < k → p l[j] = false) (hk : l.length ≤ k) : l.find? p = none := by
  rw [List.find?_eq_none]
  intro x hx
  obtain ⟨j, hj, rfl⟩ := List.mem_iff_getElem.1 hx
  rw [h j hj (by omega)]; decide
theorem find_some {α : Type} {p : α → Bool} {l : List α} {k : Nat} (hk : k < l.length) (h : ∀ j (hj : j < l.length), j < k → p l[j] = false) (hp : p l[k] = true) : l.find? p = some l[k] := by
  rw [List.find?_eq_some_iff_getElem]
  exact ⟨hp, k, hk, rfl, fun j hj => by rw [h j (by omega) hj]; rfl⟩
end Go.Proofs.YtiofgepfcacgjaaDoor
namespace Go.Proofs.YtiofgepfcacgjaaDoor
variable {P : Program} {ops : Array Oper} {Q : Exit → Act → World → Prop} {md : Region.Mode} {S S' : World → Prop}
theorem wpAnyH_more (h : ∀ w, S' w → S w) : ∀ (fuel : Nat) (listed : Array Bool) (a : Act) (w : World), wpAnyH P md ops Q S' fuel listed a w → wpAnyH P md ops Q S fuel listed a w
  | 0, _, _, _, hw => hw
  | fuel + 1, _, _, _, hw => ⟨hw.1, fun i hi => wpOp_mono (fun a' w' h' => ⟨h w' h'.1, wpAnyH_more h fuel _ a' w' h'.2⟩) (hw.2 i hi)⟩
end Go.Proofs.YtiofgepfcacgjaaDoor
namespace Go.Proofs.YtiofgepfcacgjaaDoor
open Go.RowKit
set_option linter.unusedVariables false
set_option linter.unusedSimpArgs false

theorem text_eq {x y : List UInt8} (h : x = y) : (x == y) = true := by simpa using h
theorem text_ne {x y : List UInt8} (h : x ≠ y) : (x == y) = false := by simpa using h

def setK3 (w : World) (b : Nat) (c0 c1 c2 : Value) : World := (((w.setCell ⟨b, 0, none⟩ c0).setCell ⟨b, 1, none⟩ c1).setCell ⟨b, 2, none⟩ c2)
theorem setK3_here {w : World} {b : Nat} {c0 c1 c2 x0 x1 x2 : Value} {t : TypeId} {fr : Nat × Nat} (h : w.heap[b]? = some (.cells #[x0, x1, x2] t fr)) : (setK3 w b c0 c1 c2).heap[b]? = some (.cells #[c0, c1, c2] t fr) := by
  have := set_here (o := 2) (set_here (o := 1) (set_here (o := 0) h c0) c1) c2
  unfold setK3
  simpa using this
theorem setK3_below {w w' : World} {b B : Nat} (h : Below B w w') (hb : B ≤ b) (c0 c1 c2 : Value) : Below B w (setK3 w' b c0 c1 c2) := by
  unfold setK3
  exact ((h.setCell (p := ⟨b, 0, none⟩) hb c0).setCell (p := ⟨b, 1, none⟩) hb c1).setCell (p := ⟨b, 2, none⟩) hb c2
theorem cellsK3_of {w : World} {b : Nat} {c0 c1 c2 : Value} {t : TypeId} (h : w.heap[b]? = some (.cells #[c0, c1, c2] t)) : (w.cell? ⟨b, 0, none⟩ = some c0 ∧ w.cell? ⟨b, 1, none⟩ = some c1 ∧ w.cell? ⟨b, 2, none⟩ = some c2) ∧ (w.frozen? ⟨b, 0, none⟩ = false ∧ w.frozen? ⟨b, 1, none⟩ = false ∧ w.frozen? ⟨b, 2, none⟩ = false) :=
  ⟨⟨cell_here h, cell_here h, cell_here h⟩, ⟨frozen_here h _, frozen_here h _, frozen_here h _⟩⟩
def setK5 (w : World) (b : Nat) (c0 c1 c2 c3 c4 : Value) : World := (((((w.setCell ⟨b, 0, none⟩ c0).setCell ⟨b, 1, none⟩ c1).setCell ⟨b, 2, none⟩ c2).setCell ⟨b, 3, none⟩ c3).setCell ⟨b, 4, none⟩ c4)
theorem setK5_here {w : World} {b : Nat} {c0 c1 c2 c3 c4 x0 x1 x2 x3 x4 : Value} {t : TypeId} {fr : Nat × Nat} (h : w.heap[b]? = some (.cells #[x0, x1, x2, x3, x4] t fr)) : (setK5 w b c0 c1 c2 c3 c4).heap[b]? = some (.cells #[c0, c1, c2, c3, c4] t fr) := by
  have := set_here (o := 4) (set_here (o := 3) (set_here (o := 2) (set_here (o := 1) (set_here (o := 0) h c0) c1) c2) c3) c4
  unfold setK5
  simpa using this
theorem setK5_below {w w' : World} {b B : Nat} (h : Below B w w') (hb : B ≤ b) (c0 c1 c2 c3 c4 : Value) : Below B w (setK5 w' b c0 c1 c2 c3 c4) := by
  unfold setK5
  exact ((((h.setCell (p := ⟨b, 0, none⟩) hb c0).setCell (p := ⟨b, 1, none⟩) hb c1).setCell (p := ⟨b, 2, none⟩) hb c2).setCell (p := ⟨b, 3, none⟩) hb c3).setCell (p := ⟨b, 4, none⟩) hb c4
theorem cellsK5_of {w : World} {b : Nat} {c0 c1 c2 c3 c4 : Value} {t : TypeId} (h : w.heap[b]? = some (.cells #[c0, c1, c2, c3, c4] t)) : (w.cell? ⟨b, 0, none⟩ = some c0 ∧ w.cell? ⟨b, 1, none⟩ = some c1 ∧ w.cell? ⟨b, 2, none⟩ = some c2 ∧ w.cell? ⟨b, 3, none⟩ = some c3 ∧ w.cell? ⟨b, 4, none⟩ = some c4) ∧ (w.frozen? ⟨b, 0, none⟩ = false ∧ w.frozen? ⟨b, 1, none⟩ = false ∧ w.frozen? ⟨b, 2, none⟩ = false ∧ w.frozen? ⟨b, 3, none⟩ = false ∧ w.frozen? ⟨b, 4, none⟩ = false) :=
  ⟨⟨cell_here h, cell_here h, cell_here h, cell_here h, cell_here h⟩, ⟨frozen_here h _, frozen_here h _, frozen_here h _, frozen_here h _, frozen_here h _⟩⟩
def setK7 (w : World) (b : Nat) (c0 c1 c2 c3 c4 c5 c6 : Value) : World := (((((((w.setCell ⟨b, 0, none⟩ c0).setCell ⟨b, 1, none⟩ c1).setCell ⟨b, 2, none⟩ c2).setCell ⟨b, 3, none⟩ c3).setCell ⟨b, 4, none⟩ c4).setCell ⟨b, 5, none⟩ c5).setCell ⟨b, 6, none⟩ c6)
theorem setK7_here {w : World} {b : Nat} {c0 c1 c2 c3 c4 c5 c6 x0 x1 x2 x3 x4 x5 x6 : Value} {t : TypeId} {fr : Nat × Nat} (h : w.heap[b]? = some (.cells #[x0, x1, x2, x3, x4, x5, x6] t fr)) : (setK7 w b c0 c1 c2 c3 c4 c5 c6).heap[b]? = some (.cells #[c0, c1, c2, c3, c4, c5, c6] t fr) := by
  have := set_here (o := 6) (set_here (o := 5) (set_here (o := 4) (set_here (o := 3) (set_here (o := 2) (set_here (o := 1) (set_here (o := 0) h c0) c1) c2) c3) c4) c5) c6
  unfold setK7
  simpa using this
theorem setK7_below {w w' : World} {b B : Nat} (h : Below B w w') (hb : B ≤ b) (c0 c1 c2 c3 c4 c5 c6 : Value) : Below B w (setK7 w' b c0 c1 c2 c3 c4 c5 c6) := by
  unfold setK7
  exact ((((((h.setCell (p := ⟨b, 0, none⟩) hb c0).setCell (p := ⟨b, 1, none⟩) hb c1).setCell (p := ⟨b, 2, none⟩) hb c2).setCell (p := ⟨b, 3, none⟩) hb c3).setCell (p := ⟨b, 4, none⟩) hb c4).setCell (p := ⟨b, 5, none⟩) hb c5).setCell (p := ⟨b, 6, none⟩) hb c6
theorem cellsK7_of {w : World} {b : Nat} {c0 c1 c2 c3 c4 c5 c6 : Value} {t : TypeId} (h : w.heap[b]? = some (.cells #[c0, c1, c2, c3, c4, c5, c6] t)) : (w.cell? ⟨b, 0, none⟩ = some c0 ∧ w.cell? ⟨b, 1, none⟩ = some c1 ∧ w.cell? ⟨b, 2, none⟩ = some c2 ∧ w.cell? ⟨b, 3, none⟩ = some c3 ∧ w.cell? ⟨b, 4, none⟩ = some c4 ∧ w.cell? ⟨b, 5, none⟩ = some c5 ∧ w.cell? ⟨b, 6, none⟩ = some c6) ∧ (w.frozen? ⟨b, 0, none⟩ = false ∧ w.frozen? ⟨b, 1, none⟩ = false ∧ w.frozen? ⟨b, 2, none⟩ = false ∧ w.frozen? ⟨b, 3, none⟩ = false ∧ w.frozen? ⟨b, 4, none⟩ = false ∧ w.frozen? ⟨b, 5, none⟩ = false ∧ w.frozen? ⟨b, 6, none⟩ = false) :=
  ⟨⟨cell_here h, cell_here h, cell_here h, cell_here h, cell_here h, cell_here h, cell_here h⟩, ⟨frozen_here h _, frozen_here h _, frozen_here h _, frozen_here h _, frozen_here h _, frozen_here h _, frozen_here h _⟩⟩
/-- what Client says -/
def CliSays (w : World) (l : List CliP) (id : List UInt8) (e : Ending) : Prop := match findCl l id with
  | some r => ∃ u, e = .returned (.tuple #[.agg #[tv r.cID, tv r.cSecret, u], .bool true]) ∧ RdT w u r.cReds
  | none => e = .returned (.tuple #[.agg #[.string ⟨#[]⟩, .string ⟨#[]⟩, .slice none 0 0], .bool false])
set_option maxRecDepth 100000 in
set_option maxHeartbeats 8000000 in
theorem refClientW_any (x : CfgP) (A : Option Addr) (n c : Nat) (A' : Option Addr) (n' c' : Nat) (id : List UInt8) (w0 w : World) (h : CfgIs w0 x A n c A' n' c') (hb00 : Below w0.heap.size w0 w) (hn : n ≤ 200000000000000) :
    Calls Tryd.prog 13 #[x.val A n c A' n' c', .string ⟨id.toArray⟩] w fun e w' => CliSays w0 x.gClients id e ∧ Below w.heap.size w w' := by
  obtain ⟨IS, hIS⟩ : ∃ z : ByteArray, (⟨x.gIssuer.toArray⟩ : ByteArray) = z := ⟨_, rfl⟩
  obtain ⟨KI, hKI⟩ : ∃ z : ByteArray, (⟨x.gKeyID.toArray⟩ : ByteArray) = z := ⟨_, rfl⟩
  obtain ⟨KS, hKS⟩ : ∃ z : ByteArray, (⟨x.gKeySecret.toArray⟩ : ByteArray) = z := ⟨_, rfl⟩
  have hv : x.val A n c A' n' c' = .agg #[.string IS, .string KI, .string KS, .slice A n c, .slice A' n' c'] := by unfold CfgP.val tv; rw [hIS, hKI, hKS]
  rw [hv]
  obtain ⟨l, hl⟩ : ∃ l, x.gClients = l := ⟨_, rfl⟩
  obtain ⟨hn1, hn2, hc1, hc2⟩ := h
  rw [hl] at hn1 hc1 ⊢
  obtain ⟨W2, hW2⟩ : ∃ W2, W2 = (w.alloc (.cells #[.string IS, .string KI, .string KS, .slice A n c, .slice A' n' c'] 27)).alloc (.cells #[.string ⟨#[]⟩, .string ⟨#[]⟩, .slice none 0 0] 32) := ⟨_, rfl⟩
  have hb0 : Below w.heap.size w W2 := by rw [hW2]; exact ((Below.refl _ _).alloc (Nat.le_refl _) _).alloc (by simp) _
  have x1 : W2.heap[w.heap.size]? = some (.cells #[.string IS, .string KI, .string KS, .slice A n c, .slice A' n' c'] 27 (0, 0)) := by rw [hW2]; exact alloc_block (heap_alloc_last w _)
  have x2 : W2.heap[w.heap.size + 1]? = some (.cells #[.string ⟨#[]⟩, .string ⟨#[]⟩, .slice none 0 0] 32 (0, 0)) := by rw [hW2]; exact fresh_at _ (by simp)
  have hrd := hc1
  have HBZ := Lib.hid (hb00.chain hb0)
  have HRD := Lib.hid hrd; have HW2 := Lib.hid hW2; have HB0 := Lib.hid hb0; have X1 := Lib.hid x1; have X2 := Lib.hid x2; have HN := Lib.hid hn1
  clear hv hIS hKI hKS hl hn1 hn2 hc1 hc2 hb0 x1 x2 hW2 hrd hb00
  go_enter Tryd.func13, Tryd.ntmps13
  go_wp2_with fail
  rw [← HW2.out]
  go_loop [6] (fun i => ∃ j : Nat, j ≤ n ∧ i = .int .i64 j ∧ Hid (∀ q (hq : q < l.length), q < j → decide (l[q].cID = id) = false)) (fun i => n - (intOf i).toNat)
  case atStart => exact ⟨0, Nat.zero_le _, rfl, Lib.hid (fun q hq h => absurd h (Nat.not_lt_zero _))⟩
  case round =>
    obtain ⟨j, hj, rfl, hno⟩ := hrel
    obtain ⟨⟨e0, e1, e2, e3, e4⟩, -⟩ := cellsK5_of X1.out
    obtain ⟨⟨p0, p1, p2⟩, ⟨q0, q1, q2⟩⟩ := cellsK3_of X2.out
    by_cases hlt : j < n
    · have hjl : j < l.length := by have := HN.out; omega
      have hjr : decide ((j : Int) < n) = true := by simp; omega
      obtain ⟨g, o, u, rfl, hg, c0, c1, c2, ht⟩ := HRD.out.at j hjl
      have c0 := (HBZ.out.cell (p := ⟨g, o + j * 3, none⟩) hg).trans c0
      have c1 := (HBZ.out.cell (p := ⟨g, o + j * 3 + 1, none⟩) hg).trans c1
      have c2 := (HBZ.out.cell (p := ⟨g, o + j * 3 + 2, none⟩) hg).trans c2
      obtain ⟨r, hr⟩ : ∃ r, l[j] = r := ⟨_, rfl⟩
      have hgl : l[j] = r := hr
      rw [hr] at c0 c1 ht
      obtain ⟨AR, cr, rfl, hcr, har⟩ := ht
      have ht : RdT w0 (.slice AR r.cReds.length cr) r.cReds := ⟨AR, cr, rfl, hcr, har⟩
      obtain ⟨nr, hnr⟩ : ∃ z, r.cReds.length = z := ⟨_, rfl⟩
      rw [hnr] at ht c2
      clear hcr har hnr
      have hj0 : (0 : Int) ≤ j := by omega
      have hj1 : (j : Int) < n := by omega
      by_cases hid : r.cID = id
      · have hf : findCl l id = some r := by
          rw [← hgl]
          exact find_some hjl hno.out (by rw [hgl]; simpa using hid)
        have hee := text_eq hid
        have HF := Lib.hid hf
        clear hr hgl hf hid
        unfold tv at c0 c1
        go_wp2_with fail
        obtain ⟨wf, hwf⟩ : ∃ wf, wf = setK3 W2 (w.heap.size + 1) (.string ⟨r.cID.toArray⟩) (.string ⟨r.cSecret.toArray⟩) (.slice AR nr cr) := ⟨_, rfl⟩
        change bodyPost _ _ _ _ _ (setK3 W2 (w.heap.size + 1) (.string ⟨r.cID.toArray⟩) (.string ⟨r.cSecret.toArray⟩) (.slice AR nr cr))
        rw [← hwf]
        have hy : wf.heap[w.heap.size + 1]? = some (.cells #[.string ⟨r.cID.toArray⟩, .string ⟨r.cSecret.toArray⟩, .slice AR nr cr] 32 (0, 0)) := by rw [hwf]; exact setK3_here X2.out
        have hbf : Below (w.heap.size + 1) W2 wf := by rw [hwf]; exact setK3_below (Below.refl _ _) (Nat.le_refl _) (.string ⟨r.cID.toArray⟩) (.string ⟨r.cSecret.toArray⟩) (.slice AR nr cr)
        obtain ⟨⟨y0, y1, y2⟩, -⟩ := cellsK3_of hy
        have HBF := Lib.hid (HB0.out.trans (hbf.mono (Nat.le_succ _)))
        have HT := Lib.hid ht
        clear hwf hy hbf p0 p1 p2 q0 q1 q2
        refine bodyPost_ret (v := .tuple #[.agg #[.string ⟨r.cID.toArray⟩, .string ⟨r.cSecret.toArray⟩, .slice AR nr cr], .bool true]) (by simp [results, Tryd.results13, go_sem, y0, y1, y2]) rfl ?_
        refine ⟨?_, HBF.out⟩
        unfold CliSays
        rw [HF.out]
        exact ⟨_, rfl, HT.out⟩
      · have hee := text_ne hid
        have hnx : ∀ q (hq : q < l.length), q < j + 1 → decide (l[q].cID = id) = false := fun q hq h => by
          by_cases e : q = j
          · subst e; rw [hgl]; simpa using hid
          · exact hno.out q hq (by omega)
        have HNX := Lib.hid hnx
        clear hr hgl hnx hid hno
        unfold tv at c0 c1
        go_wp2_with fail
        exact ⟨⟨j + 1, by omega, by go_num, HNX⟩, by simp [intOf]; omega⟩
    · obtain rfl : n = j := by omega
      have hjr : decide ((n : Int) < n) = false := by simp
      have hf : findCl l id = none := find_none hno.out (by have := HN.out; omega)
      have HF := Lib.hid hf
      clear hf hno
      go_wp2_with fail
      obtain ⟨wf, hwf⟩ : ∃ wf, wf = setK3 W2 (w.heap.size + 1) (.string ⟨#[]⟩) (.string ⟨#[]⟩) (.slice none 0 0) := ⟨_, rfl⟩
      change bodyPost _ _ _ _ _ (setK3 W2 (w.heap.size + 1) (.string ⟨#[]⟩) (.string ⟨#[]⟩) (.slice none 0 0))
      rw [← hwf]
      have hy : wf.heap[w.heap.size + 1]? = some (.cells #[.string ⟨#[]⟩, .string ⟨#[]⟩, .slice none 0 0] 32 (0, 0)) := by rw [hwf]; exact setK3_here X2.out
      have hbf : Below (w.heap.size + 1) W2 wf := by rw [hwf]; exact setK3_below (Below.refl _ _) (Nat.le_refl _) (.string ⟨#[]⟩) (.string ⟨#[]⟩) (.slice none 0 0)
      obtain ⟨⟨y0, y1, y2⟩, -⟩ := cellsK3_of hy
      have HBF := Lib.hid (HB0.out.trans (hbf.mono (Nat.le_succ _)))
      clear hwf hy hbf p0 p1 p2 q0 q1 q2
      refine bodyPost_ret (v := .tuple #[.agg #[.string ⟨#[]⟩, .string ⟨#[]⟩, .slice none 0 0], .bool false]) (by simp [results, Tryd.results13, go_sem, y0, y1, y2]) rfl ?_
      refine ⟨?_, HBF.out⟩
      unfold CliSays
      rw [HF.out]
theorem refClient_any (x : CfgP) (A : Option Addr) (n c : Nat) (A' : Option Addr) (n' c' : Nat) (id : List UInt8) (w : World) (h : CfgIs w x A n c A' n' c') (hn : n ≤ 200000000000000) :
    Calls Tryd.prog 13 #[x.val A n c A' n' c', .string ⟨id.toArray⟩] w fun e w' => CliSays w x.gClients id e ∧ Below w.heap.size w w' :=
  refClientW_any x A n c A' n' c' id w w h (Below.refl _ _) hn
/-- what Conn says -/
def CnnSays (w : World) (l : List ConnP) (id : List UInt8) (e : Ending) : Prop := match findCn l id with
  | some r => e = .returned (.tuple #[r.val, .bool true])
  | none => e = .returned (.tuple #[.agg #[.string ⟨#[]⟩, .string ⟨#[]⟩, .string ⟨#[]⟩, .string ⟨#[]⟩, .string ⟨#[]⟩, .bool false, .string ⟨#[]⟩], .bool false])
set_option maxRecDepth 100000 in
set_option maxHeartbeats 8000000 in
theorem refConnW_any (x : CfgP) (A : Option Addr) (n c : Nat) (A' : Option Addr) (n' c' : Nat) (id : List UInt8) (w0 w : World) (h : CfgIs w0 x A n c A' n' c') (hb00 : Below w0.heap.size w0 w) (hn : n' ≤ 200000000000000) :
    Calls Tryd.prog 15 #[x.val A n c A' n' c', .string ⟨id.toArray⟩] w fun e w' => CnnSays w0 x.gConns id e ∧ Below w.heap.size w w' := by
  obtain ⟨IS, hIS⟩ : ∃ z : ByteArray, (⟨x.gIssuer.toArray⟩ : ByteArray) = z := ⟨_, rfl⟩
  obtain ⟨KI, hKI⟩ : ∃ z : ByteArray, (⟨x.gKeyID.toArray⟩ : ByteArray) = z := ⟨_, rfl⟩
  obtain ⟨KS, hKS⟩ : ∃ z : ByteArray, (⟨x.gKeySecret.toArray⟩ : ByteArray) = z := ⟨_, rfl⟩
  have hv : x.val A n c A' n' c' = .agg #[.string IS, .string KI, .string KS, .slice A n c, .slice A' n' c'] := by unfold CfgP.val tv; rw [hIS, hKI, hKS]
  rw [hv]
  obtain ⟨l, hl⟩ : ∃ l, x.gConns = l := ⟨_, rfl⟩
  obtain ⟨hn1, hn2, hc1, hc2⟩ := h
  rw [hl] at hn2 hc2 ⊢
  obtain ⟨W2, hW2⟩ : ∃ W2, W2 = (w.alloc (.cells #[.string IS, .string KI, .string KS, .slice A n c, .slice A' n' c'] 27)).alloc (.cells #[.string ⟨#[]⟩, .string ⟨#[]⟩, .string ⟨#[]⟩, .string ⟨#[]⟩, .string ⟨#[]⟩, .bool false, .string ⟨#[]⟩] 36) := ⟨_, rfl⟩
  have hb0 : Below w.heap.size w W2 := by rw [hW2]; exact ((Below.refl _ _).alloc (Nat.le_refl _) _).alloc (by simp) _
  have x1 : W2.heap[w.heap.size]? = some (.cells #[.string IS, .string KI, .string KS, .slice A n c, .slice A' n' c'] 27 (0, 0)) := by rw [hW2]; exact alloc_block (heap_alloc_last w _)
  have x2 : W2.heap[w.heap.size + 1]? = some (.cells #[.string ⟨#[]⟩, .string ⟨#[]⟩, .string ⟨#[]⟩, .string ⟨#[]⟩, .string ⟨#[]⟩, .bool false, .string ⟨#[]⟩] 36 (0, 0)) := by rw [hW2]; exact fresh_at _ (by simp)
  have hrd := hc2
  have HBZ := Lib.hid (hb00.chain hb0)
  have HRD := Lib.hid hrd; have HW2 := Lib.hid hW2; have HB0 := Lib.hid hb0; have X1 := Lib.hid x1; have X2 := Lib.hid x2; have HN := Lib.hid hn2
  clear hv hIS hKI hKS hl hn1 hn2 hc1 hc2 hb0 x1 x2 hW2 hrd hb00
  go_enter Tryd.func15, Tryd.ntmps15
  go_wp2_with fail
  rw [← HW2.out]
  go_loop [6] (fun i => ∃ j : Nat, j ≤ n' ∧ i = .int .i64 j ∧ Hid (∀ q (hq : q < l.length), q < j → decide (l[q].fID = id) = false)) (fun i => n' - (intOf i).toNat)
  case atStart => exact ⟨0, Nat.zero_le _, rfl, Lib.hid (fun q hq h => absurd h (Nat.not_lt_zero _))⟩
  case round =>
    obtain ⟨j, hj, rfl, hno⟩ := hrel
    obtain ⟨⟨e0, e1, e2, e3, e4⟩, -⟩ := cellsK5_of X1.out
    obtain ⟨⟨p0, p1, p2, p3, p4, p5, p6⟩, ⟨q0, q1, q2, q3, q4, q5, q6⟩⟩ := cellsK7_of X2.out
    by_cases hlt : j < n'
    · have hjl : j < l.length := by have := HN.out; omega
      have hjr : decide ((j : Int) < n') = true := by simp; omega
      obtain ⟨g, o, rfl, hg, c0, c1, c2, c3, c4, c5, c6⟩ := HRD.out.at j hjl
      have c0 := (HBZ.out.cell (p := ⟨g, o + j * 7, none⟩) hg).trans c0
      have c1 := (HBZ.out.cell (p := ⟨g, o + j * 7 + 1, none⟩) hg).trans c1
      have c2 := (HBZ.out.cell (p := ⟨g, o + j * 7 + 2, none⟩) hg).trans c2
      have c3 := (HBZ.out.cell (p := ⟨g, o + j * 7 + 3, none⟩) hg).trans c3
      have c4 := (HBZ.out.cell (p := ⟨g, o + j * 7 + 4, none⟩) hg).trans c4
      have c5 := (HBZ.out.cell (p := ⟨g, o + j * 7 + 5, none⟩) hg).trans c5
      have c6 := (HBZ.out.cell (p := ⟨g, o + j * 7 + 6, none⟩) hg).trans c6
      obtain ⟨r, hr⟩ : ∃ r, l[j] = r := ⟨_, rfl⟩
      have hgl : l[j] = r := hr
      rw [hr] at c0 c1 c2 c3 c4 c5 c6
      have hj0 : (0 : Int) ≤ j := by omega
      have hj1 : (j : Int) < n' := by omega
      by_cases hid : r.fID = id
      · have hf : findCn l id = some r := by
          rw [← hgl]
          exact find_some hjl hno.out (by rw [hgl]; simpa using hid)
        have hee := text_eq hid
        have HF := Lib.hid hf
        clear hr hgl hf hid
        unfold tv at c0 c1 c2 c3 c4 c6
        go_wp2_with fail
        obtain ⟨wf, hwf⟩ : ∃ wf, wf = setK7 W2 (w.heap.size + 1) (.string ⟨r.fID.toArray⟩) (.string ⟨r.fIssuer.toArray⟩) (.string ⟨r.fClient.toArray⟩) (.string ⟨r.fAuth.toArray⟩) (.string ⟨r.fSecret.toArray⟩) (.bool r.fOpen) (.string ⟨r.fRules.toArray⟩) := ⟨_, rfl⟩
        change bodyPost _ _ _ _ _ (setK7 W2 (w.heap.size + 1) (.string ⟨r.fID.toArray⟩) (.string ⟨r.fIssuer.toArray⟩) (.string ⟨r.fClient.toArray⟩) (.string ⟨r.fAuth.toArray⟩) (.string ⟨r.fSecret.toArray⟩) (.bool r.fOpen) (.string ⟨r.fRules.toArray⟩))
        rw [← hwf]
        have hy : wf.heap[w.heap.size + 1]? = some (.cells #[.string ⟨r.fID.toArray⟩, .string ⟨r.fIssuer.toArray⟩, .string ⟨r.fClient.toArray⟩, .string ⟨r.fAuth.toArray⟩, .string ⟨r.fSecret.toArray⟩, .bool r.fOpen, .string ⟨r.fRules.toArray⟩] 36 (0, 0)) := by rw [hwf]; exact setK7_here X2.out
        have hbf : Below (w.heap.size + 1) W2 wf := by rw [hwf]; exact setK7_below (Below.refl _ _) (Nat.le_refl _) (.string ⟨r.fID.toArray⟩) (.string ⟨r.fIssuer.toArray⟩) (.string ⟨r.fClient.toArray⟩) (.string ⟨r.fAuth.toArray⟩) (.string ⟨r.fSecret.toArray⟩) (.bool r.fOpen) (.string ⟨r.fRules.toArray⟩)
        obtain ⟨⟨y0, y1, y2, y3, y4, y5, y6⟩, -⟩ := cellsK7_of hy
        have HBF := Lib.hid (HB0.out.trans (hbf.mono (Nat.le_succ _)))

        clear hwf hy hbf p0 p1 p2 p3 p4 p5 p6 q0 q1 q2 q3 q4 q5 q6
        refine bodyPost_ret (v := .tuple #[.agg #[.string ⟨r.fID.toArray⟩, .string ⟨r.fIssuer.toArray⟩, .string ⟨r.fClient.toArray⟩, .string ⟨r.fAuth.toArray⟩, .string ⟨r.fSecret.toArray⟩, .bool r.fOpen, .string ⟨r.fRules.toArray⟩], .bool true]) (by simp [results, Tryd.results15, go_sem, y0, y1, y2, y3, y4, y5, y6]) rfl ?_
        refine ⟨?_, HBF.out⟩
        unfold CnnSays
        rw [HF.out]
        exact rfl
      · have hee := text_ne hid
        have hnx : ∀ q (hq : q < l.length), q < j + 1 → decide (l[q].fID = id) = false := fun q hq h => by
          by_cases e : q = j
          · subst e; rw [hgl]; simpa using hid
          · exact hno.out q hq (by omega)
        have HNX := Lib.hid hnx
        clear hr hgl hnx hid hno
        unfold tv at c0 c1 c2 c3 c4 c6
        go_wp2_with fail
        exact ⟨⟨j + 1, by omega, by go_num, HNX⟩, by simp [intOf]; omega⟩
    · obtain rfl : n' = j := by omega
      have hjr : decide ((n' : Int) < n') = false := by simp
      have hf : findCn l id = none := find_none hno.out (by have := HN.out; omega)
      have HF := Lib.hid hf
      clear hf hno
      go_wp2_with fail
      obtain ⟨wf, hwf⟩ : ∃ wf, wf = setK7 W2 (w.heap.size + 1) (.string ⟨#[]⟩) (.string ⟨#[]⟩) (.string ⟨#[]⟩) (.string ⟨#[]⟩) (.string ⟨#[]⟩) (.bool false) (.string ⟨#[]⟩) := ⟨_, rfl⟩
      change bodyPost _ _ _ _ _ (setK7 W2 (w.heap.size + 1) (.string ⟨#[]⟩) (.string ⟨#[]⟩) (.string ⟨#[]⟩) (.string ⟨#[]⟩) (.string ⟨#[]⟩) (.bool false) (.string ⟨#[]⟩))
      rw [← hwf]
      have hy : wf.heap[w.heap.size + 1]? = some (.cells #[.string ⟨#[]⟩, .string ⟨#[]⟩, .string ⟨#[]⟩, .string ⟨#[]⟩, .string ⟨#[]⟩, .bool false, .string ⟨#[]⟩] 36 (0, 0)) := by rw [hwf]; exact setK7_here X2.out
      have hbf : Below (w.heap.size + 1) W2 wf := by rw [hwf]; exact setK7_below (Below.refl _ _) (Nat.le_refl _) (.string ⟨#[]⟩) (.string ⟨#[]⟩) (.string ⟨#[]⟩) (.string ⟨#[]⟩) (.string ⟨#[]⟩) (.bool false) (.string ⟨#[]⟩)
      obtain ⟨⟨y0, y1, y2, y3, y4, y5, y6⟩, -⟩ := cellsK7_of hy
      have HBF := Lib.hid (HB0.out.trans (hbf.mono (Nat.le_succ _)))
      clear hwf hy hbf p0 p1 p2 p3 p4 p5 p6 q0 q1 q2 q3 q4 q5 q6
      refine bodyPost_ret (v := .tuple #[.agg #[.string ⟨#[]⟩, .string ⟨#[]⟩, .string ⟨#[]⟩, .string ⟨#[]⟩, .string ⟨#[]⟩, .bool false, .string ⟨#[]⟩], .bool false]) (by simp [results, Tryd.results15, go_sem, y0, y1, y2, y3, y4, y5, y6]) rfl ?_
      refine ⟨?_, HBF.out⟩
      unfold CnnSays
      rw [HF.out]
theorem refConn_any (x : CfgP) (A : Option Addr) (n c : Nat) (A' : Option Addr) (n' c' : Nat) (id : List UInt8) (w : World) (h : CfgIs w x A n c A' n' c') (hn : n' ≤ 200000000000000) :
    Calls Tryd.prog 15 #[x.val A n c A' n' c', .string ⟨id.toArray⟩] w fun e w' => CnnSays w x.gConns id e ∧ Below w.heap.size w w' :=
  refConnW_any x A n c A' n' c' id w w h (Below.refl _ _) hn
end Go.Proofs.YtiofgepfcacgjaaDoor
namespace Go.Proofs.YtiofgepfcacgjaaDoor
open Go.RowKit
set_option linter.unusedVariables false
set_option linter.unusedSimpArgs false

set_option maxRecDepth 100000 in
set_option maxHeartbeats 8000000 in
theorem refRedirect_any (r : CliP) (A : Option Addr) (n c : Nat) (s : List UInt8) (w : World) (hn : n = r.cReds.length) (hn2 : n ≤ 200000000000000) (h : RdT w (.slice A n c) r.cReds) :
    Calls Tryd.prog 19 #[.agg #[tv r.cID, tv r.cSecret, .slice A n c], .string ⟨s.toArray⟩] w fun e w' => e = .returned (.bool (redirP r s)) ∧ Below w.heap.size w w' := by
  obtain ⟨I, hI⟩ : ∃ z : ByteArray, (⟨r.cID.toArray⟩ : ByteArray) = z := ⟨_, rfl⟩
  obtain ⟨S, hS⟩ : ∃ z : ByteArray, (⟨r.cSecret.toArray⟩ : ByteArray) = z := ⟨_, rfl⟩
  unfold tv
  rw [hI, hS]
  obtain ⟨R, hR⟩ : ∃ R, redirP r s = R := ⟨_, rfl⟩
  rw [hR]
  unfold redirP at hR
  obtain ⟨l, hl⟩ : ∃ l, r.cReds = l := ⟨_, rfl⟩
  rw [hl] at hn h hR
  obtain ⟨W2, hW2⟩ : ∃ W2, W2 = w.alloc (.cells #[.string I, .string S, .slice A n c] 32) := ⟨_, rfl⟩
  have hb0 : Below w.heap.size w W2 := by rw [hW2]; exact (Below.refl _ _).alloc (Nat.le_refl _) _
  have x1 : W2.heap[w.heap.size]? = some (.cells #[.string I, .string S, .slice A n c] 32 (0, 0)) := by rw [hW2]; exact heap_alloc_last w _
  have HRD := Lib.hid h; have HW2 := Lib.hid hW2; have HB0 := Lib.hid hb0; have X1 := Lib.hid x1; have HN := Lib.hid hn; have HR := Lib.hid hR
  clear h hW2 hb0 x1 hn hR hI hS hl
  go_enter Tryd.func19, Tryd.ntmps19
  go_wp2_with fail
  rw [← HW2.out]
  go_loop [5] (fun i => ∃ j : Nat, j ≤ n ∧ i = .int .i64 j ∧ Hid (∀ q (hq : q < l.length), q < j → decide (l[q] = s) = false)) (fun i => n - (intOf i).toNat)
  case atStart => exact ⟨0, Nat.zero_le _, rfl, Lib.hid (fun q hq h => absurd h (Nat.not_lt_zero _))⟩
  case round =>
    obtain ⟨j, hj, rfl, hno⟩ := hrel
    obtain ⟨⟨e0, e1, e2⟩, -⟩ := cellsK3_of X1.out
    by_cases hlt : j < n
    · have hjl : j < l.length := by have := HN.out; omega
      have hjr : decide ((j : Int) < n) = true := by simp; omega
      obtain ⟨g, o, rfl, hg, c0⟩ := HRD.out.at j hjl
      have c0 := (HB0.out.cell (p := ⟨g, o + j, none⟩) hg).trans c0
      obtain ⟨y, hy⟩ : ∃ y, l[j] = y := ⟨_, rfl⟩
      have hgl : l[j] = y := hy
      rw [hy] at c0
      unfold tv at c0
      have hj0 : (0 : Int) ≤ j := by omega
      have hj1 : (j : Int) < n := by omega
      by_cases hid : y = s
      · have hee := text_eq hid
        have hf : R = true := by
          rw [← HR.out, List.any_eq_true]
          exact ⟨y, by rw [← hgl]; exact List.getElem_mem hjl, by simpa using hid⟩
        clear hy hgl hid hno
        subst hf
        go_wp2_with fail
        go_ret
        exact ⟨rfl, HB0.out⟩
      · have hee := text_ne hid
        have hnx : ∀ q (hq : q < l.length), q < j + 1 → decide (l[q] = s) = false := fun q hq h => by
          by_cases e : q = j
          · subst e; rw [hgl]; simpa using hid
          · exact hno.out q hq (by omega)
        have HNX := Lib.hid hnx
        clear hy hgl hnx hid hno
        go_wp2_with fail
        exact ⟨⟨j + 1, by omega, by go_num, HNX⟩, by simp [intOf]; omega⟩
    · obtain rfl : n = j := by omega
      have hjr : decide ((n : Int) < n) = false := by simp
      have hf : R = false := by
        rw [← HR.out, List.any_eq_false]
        intro y hy
        obtain ⟨q, hq, rfl⟩ := List.mem_iff_getElem.1 hy
        have := hno.out q hq (by have := HN.out; omega)
        simpa using this
      clear hno
      subst hf
      go_wp2_with fail
      go_ret
      exact ⟨rfl, HB0.out⟩
set_option maxRecDepth 100000 in
set_option maxHeartbeats 8000000 in
theorem refAuth_any (x : CfgP) (A : Option Addr) (n c : Nat) (A' : Option Addr) (n' c' : Nat) (id sec : List UInt8) (w : World) (h : CfgIs w x A n c A' n' c') (hn : n ≤ 200000000000000) :
    Calls Tryd.prog 17 #[x.val A n c A' n' c', .string ⟨id.toArray⟩, .string ⟨sec.toArray⟩] w fun e w' => e = .returned (.bool (authP x id sec)) ∧ Below w.heap.size w w' := by
  obtain ⟨R, hR⟩ : ∃ R, authP x id sec = R := ⟨_, rfl⟩
  rw [hR]
  unfold authP at hR
  have hcl := fun W (hb : Below w.heap.size w W) => refClient_any x A n c A' n' c' id W (h.below hb) hn
  unfold CliSays at hcl
  obtain ⟨IS, hIS⟩ : ∃ z : ByteArray, (⟨x.gIssuer.toArray⟩ : ByteArray) = z := ⟨_, rfl⟩
  obtain ⟨KI, hKI⟩ : ∃ z : ByteArray, (⟨x.gKeyID.toArray⟩ : ByteArray) = z := ⟨_, rfl⟩
  obtain ⟨KS, hKS⟩ : ∃ z : ByteArray, (⟨x.gKeySecret.toArray⟩ : ByteArray) = z := ⟨_, rfl⟩
  have hv : x.val A n c A' n' c' = .agg #[.string IS, .string KI, .string KS, .slice A n c, .slice A' n' c'] := by unfold CfgP.val tv; rw [hIS, hKI, hKS]
  rw [hv] at hcl ⊢
  obtain ⟨W1, hW1⟩ : ∃ W1, w.alloc (.cells #[.string IS, .string KI, .string KS, .slice A n c, .slice A' n' c'] 27) = W1 := ⟨_, rfl⟩
  have hb0 : Below w.heap.size w W1 := by rw [← hW1]; exact (Below.refl _ _).alloc (Nat.le_refl _) _
  have HB0 := Lib.hid hb0; have HCL := Lib.hid hcl; have HW1 := Lib.hid hW1
  clear hv hIS hKI hKS hcl hb0 hW1 h
  cases hf : findCl x.gClients id with
  | none =>
    rw [hf] at HCL hR
    subst hR
    go_enter Tryd.func17, Tryd.ntmps17
    go_wp2_with (go_at_call 13; rw [HW1.out]; (with_reducible refine (HCL.out _ HB0.out).mono ?_); rintro e1 w1 ⟨rfl, hb1⟩; have HB1 := Lib.hid ((HB0.out.chain hb1).alloc (HB0.out.chain hb1).size (.cells #[.string ⟨#[]⟩, .string ⟨#[]⟩, .slice none 0 0] 32)); clear hb1; dsimp only)
    go_ret
    exact ⟨rfl, HB1.out⟩
  | some r =>
    rw [hf] at HCL hR
    dsimp only at hR
    obtain ⟨r0, r1, r2⟩ := r
    dsimp only at hR
    have HR := Lib.hid hR
    clear hR hf
    by_cases h1 : r1 = []
    · subst h1
      have e : R = false := by rw [← HR.out]; rfl
      subst e
      go_enter Tryd.func17, Tryd.ntmps17
      go_wp2_with (go_at_call 13; rw [HW1.out]; (with_reducible refine (HCL.out _ HB0.out).mono ?_); rintro e1 w1 ⟨⟨u, rfl, hu⟩, hb1⟩; obtain ⟨UA, uc, rfl, -, -⟩ := hu; have HB1 := Lib.hid ((HB0.out.chain hb1).alloc (HB0.out.chain hb1).size (.cells #[tv r0, tv [], .slice UA r2.length uc] 32)); unfold tv at HB1 ⊢; clear hb1; dsimp only)
      go_ret
      exact ⟨rfl, HB1.out⟩
    · have hne : r1.isEmpty = false := by
        cases r1 with
        | nil => exact absurd rfl h1
        | cons _ _ => rfl
      have e : R = (r1 == sec) := by
        rw [← HR.out]
        by_cases h2 : r1 = sec
        · rw [text_eq h2]; simp [h1, h2]; intro h; exact h1 (h2.trans h)
        · rw [text_ne h2]; simp [h2]
      obtain ⟨b, hb⟩ : ∃ b, (r1 == sec) = b := ⟨_, rfl⟩
      rw [hb] at e
      subst e
      go_enter Tryd.func17, Tryd.ntmps17
      go_wp2_with (go_at_call 13; rw [HW1.out]; (with_reducible refine (HCL.out _ HB0.out).mono ?_); rintro e1 w1 ⟨⟨u, rfl, hu⟩, hb1⟩; obtain ⟨UA, uc, rfl, -, -⟩ := hu; have HB1 := Lib.hid ((HB0.out.chain hb1).alloc (HB0.out.chain hb1).size (.cells #[tv r0, tv r1, .slice UA r2.length uc] 32)); unfold tv at HB1 ⊢; clear hb1; dsimp only)
      go_ret
      exact ⟨rfl, HB1.out⟩
end Go.Proofs.YtiofgepfcacgjaaDoor
namespace Go.Proofs.YtiofgepfcacgjaaDoor
open Go.RowKit
set_option linter.unusedVariables false
set_option linter.unusedSimpArgs false

/-- what the landed Client says: texts of the call's own -/
def CliOwn (B : Nat) (l : List CliP) (id : List UInt8) (e : Ending) (w' : World) : Prop := match findCl l id with
  | some r => ∃ u, e = .returned (.tuple #[.agg #[tv r.cID, tv r.cSecret, u], .bool true]) ∧ TRow w' B u r.cReds
  | none => e = .returned (.tuple #[.agg #[.string ⟨#[]⟩, .string ⟨#[]⟩, .slice none 0 0], .bool false])
/-- what Conn says -/
def CnnOwn (l : List ConnP) (id : List UInt8) (e : Ending) : Prop := match findCn l id with
  | some r => e = .returned (.tuple #[r.val, .bool true])
  | none => e = .returned (.tuple #[.agg #[.string ⟨#[]⟩, .string ⟨#[]⟩, .string ⟨#[]⟩, .string ⟨#[]⟩, .string ⟨#[]⟩, .bool false, .string ⟨#[]⟩], .bool false])
/-- what the landed Client does, behind world w0 -/
def CodeClient (w0 : World) : Prop := ∀ w, Below w0.heap.size w0 w → ∀ (x : CfgP) (A : Option Addr) (n c : Nat) (A' : Option Addr) (n' c' : Nat) (id : List UInt8), CfgIs w x A n c A' n' c' → x.fit → x.gClients.length ≤ 20 →
  Calls Tryd.prog 12 #[x.val A n c A' n' c', tv id] w fun e w' => CliOwn w.heap.size x.gClients id e w' ∧ Below w.heap.size w w'
/-- what the landed Conn does, behind world w0 -/
def CodeConn (w0 : World) : Prop := ∀ w, Below w0.heap.size w0 w → ∀ (x : CfgP) (A : Option Addr) (n c : Nat) (A' : Option Addr) (n' c' : Nat) (id : List UInt8), CfgIs w x A n c A' n' c' → x.fit → x.gConns.length ≤ 20 →
  Calls Tryd.prog 14 #[x.val A n c A' n' c', tv id] w fun e w' => CnnOwn x.gConns id e ∧ Below w.heap.size w w'
/-- what the landed Redirect does, behind world w0 -/
def CodeRedir (w0 : World) : Prop := ∀ w, Below w0.heap.size w0 w → ∀ (r : CliP) (A : Option Addr) (n c : Nat) (s : List UInt8), n = r.cReds.length → r.fit → RdT w (.slice A n c) r.cReds →
  Calls Tryd.prog 18 #[.agg #[tv r.cID, tv r.cSecret, .slice A n c], tv s] w fun e w' => e = .returned (.bool (redirP r s)) ∧ Below w.heap.size w w'
end Go.Proofs.YtiofgepfcacgjaaDoor
namespace Go.Proofs.YtiofgepfcacgjaaDoor
set_option linter.unusedVariables false

theorem fit_one {id sec : List UInt8} {reds : List (List UInt8)} (h1 : id.length ≤ 200000000000000) (h2 : sec.length ≤ 200000000000000) (h3 : reds.length ≤ 100) (h4 : ∀ s ∈ reds, s.length ≤ 200000000000000) : CfgP.fitS ⟨[], [], [], [⟨id, sec, reds⟩], []⟩ := by
  refine ⟨⟨Nat.zero_le _, Nat.zero_le _, Nat.zero_le _, (show 1 ≤ 200000000000000 by decide), fun r hr => ?_, Nat.zero_le _, fun r hr => by cases hr⟩, Nat.zero_le _, (show 1 ≤ 20 by decide), Nat.zero_le _, fun k hk => ?_, fun k hk => by cases hk⟩
  · obtain rfl : r = _ := by simpa using hr
    exact ⟨h1, h2, (show reds.length * 16 ≤ 140737488355328 by omega), h4⟩
  · match k, hk with
    | 0, _ => exact h3
end Go.Proofs.YtiofgepfcacgjaaDoor
namespace Go.Proofs.YtiofgepfcacgjaaDoor
set_option linter.unusedVariables false

/-- a rule: what it does, its words -/
structure RU where
  op : List UInt8
  args : List (List UInt8)
def opSet : List UInt8 := [115, 101, 116]
def opText : List UInt8 := [116, 101, 120, 116]
def opJoin : List UInt8 := [106, 111, 105, 110]
def opNeed : List UInt8 := [110, 101, 101, 100]
def opOnly : List UInt8 := [111, 110, 108, 121]
def argsN (op : List UInt8) : Nat := if op = opSet ∨ op = opText ∨ op = opNeed then 2 else if op = opJoin ∨ op = opOnly then 3 else 0
def letterR (c : UInt8) : Bool := decide (97 ≤ c ∧ c ≤ 122) || decide (65 ≤ c ∧ c ≤ 90) || decide (48 ≤ c ∧ c ≤ 57) || decide (c = 95) || decide (c = 45)
def nameR (s : List UInt8) : Bool := s.all letterR && decide (1 ≤ s.length ∧ s.length ≤ 32)
/-- what tokens say of themselves -/
def keptR : List (List UInt8) := [[105, 115, 115], [115, 117, 98], [97, 117, 100], [101, 120, 112], [105, 97, 116], [110, 111, 110, 99, 101], [117, 115, 101], [102, 97, 109]]
def RU.good (r : RU) : Bool := decide (argsN r.op ≠ 0) && decide (r.args.length = argsN r.op) && r.args.all nameR && (decide (r.op = opNeed) || !keptR.contains (r.args.headD []))
theorem good_parts {r : RU} (h : r.good = true) : argsN r.op ≠ 0 ∧ r.args.length = argsN r.op := by
  unfold RU.good at h
  simp only [Bool.and_eq_true, decide_eq_true_eq] at h
  exact ⟨h.1.1.1, h.1.1.2⟩
end Go.Proofs.YtiofgepfcacgjaaDoor
