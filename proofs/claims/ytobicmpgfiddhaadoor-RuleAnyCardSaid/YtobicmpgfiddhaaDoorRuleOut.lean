/- The object that the landed rules fill: two rows beside a variable that holds them, and values that lie apart from all three. -/
import Derived.Test.YtobicmpgfiddhaaDoorPutSet
import Derived.Test.YtobicmpgfiddhaaDoorRuleVals
namespace Go.Proofs.YtobicmpgfiddhaaDoor
open Go.RowKit
set_option linter.unusedVariables false
set_option linter.unusedSimpArgs false

/-- whatever lay below B lies as it lay, but block p -/
structure ButO (B p : Nat) (w w' : World) : Prop where
  os : w'.os = w.os
  tape : w'.tape = w.tape
  output : w'.output = w.output
  size : w.heap.size ≤ w'.heap.size
  block : ∀ k, k < B → k ≠ p → w'.heap[k]? = w.heap[k]?
theorem ButO.refl (B p : Nat) (w : World) : ButO B p w w := ⟨rfl, rfl, rfl, Nat.le_refl _, fun _ _ _ => rfl⟩
theorem ButO.trans {B p : Nat} {a b c : World} (h : ButO B p a b) (k : ButO B p b c) : ButO B p a c :=
  ⟨k.os.trans h.os, k.tape.trans h.tape, k.output.trans h.output, Nat.le_trans h.size k.size, fun i h1 h2 => (k.block i h1 h2).trans (h.block i h1 h2)⟩
theorem ButO.of {B p : Nat} {w w' : World} (h : Below B w w') : ButO B p w w' := ⟨h.os, h.tape, h.output, h.size, fun k hk _ => h.block k hk⟩
theorem ButO.low {B p A : Nat} {w w' : World} (h : ButO B p w w') (h1 : A ≤ B) (h2 : A ≤ p) : Below A w w' := ⟨h.os, h.tape, h.output, h.size, fun k hk => h.block k (by omega) (by omega)⟩
theorem ButO.mono {B B' p : Nat} {w w' : World} (h : ButO B p w w') (hB : B' ≤ B) : ButO B' p w w' := ⟨h.os, h.tape, h.output, h.size, fun k hk hp => h.block k (by omega) hp⟩
theorem ButO.set {B p : Nat} {w w' : World} (h : ButO B p w w') {b o : Nat} (hb : B ≤ b ∨ b = p) (v : Value) : ButO B p w (w'.setCell ⟨b, o, none⟩ v) :=
  ⟨h.os, h.tape, h.output, by rw [set_size]; exact h.size, fun k h1 h2 => (set_there v (by omega)).trans (h.block k h1 h2)⟩
theorem ButO.set5 {B p : Nat} {w w' : World} (h : ButO B p w w') {b o : Nat} (hb : B ≤ b ∨ b = p) (c0 c1 c2 c3 c4 : Value) : ButO B p w (set5 w' b o c0 c1 c2 c3 c4) := by
  unfold Proofs.YtobicmpgfiddhaaDoor.set5
  exact ((((h.set hb c0).set hb c1).set hb c2).set hb c3).set hb c4
theorem ButO.grown {B p : Nat} {w w' w'' : World} {row : Option Nat} (h : ButO B p w w') (hg : w'.grownBy w'' row) (hB : B ≤ w'.heap.size) (hr : ∀ k, row = some k → B ≤ k ∨ k = p) : ButO B p w w'' :=
  ⟨hg.os.trans h.os, hg.tape.trans h.tape, hg.output.trans h.output, Nat.le_trans h.size hg.size, fun k h1 h2 => (hg.block k (by omega) (fun e => by have := hr k e.symm; omega)).trans (h.block k h1 h2)⟩

/-- a block apart from the object's -/
def ApB (p : Nat) (lv kv : Value) (g : Nat) : Prop := g ≠ p ∧ lv.ownBlock ≠ some g ∧ kv.ownBlock ≠ some g
/-- a value that lies apart from the object's blocks -/
def ApV (B : Nat) (w : World) (p : Nat) (lv kv : Value) (x : V) (cs : List Value) : Prop := ∃ L N, (N = 0 ∨ B ≤ L) ∧ N ≤ w.heap.size ∧ (∀ g, L ≤ g → g < N → ApB p lv kv g) ∧ VIs w L N x cs
theorem ApV.step {B : Nat} {w w' : World} {p : Nat} {lv kv lv' kv' : Value} {x : V} {cs : List Value} (h : ApV B w p lv kv x cs) (hk : ∀ g, g < w.heap.size → ApB p lv kv g → w'.heap[g]? = w.heap[g]?) (hs : w.heap.size ≤ w'.heap.size)
    (ha : ∀ g, g < w.heap.size → ApB p lv kv g → ApB p lv' kv' g) : ApV B w' p lv' kv' x cs := by
  obtain ⟨L, N, h0, h1, h2, h3⟩ := h
  exact ⟨L, N, h0, Nat.le_trans h1 hs, fun g a b => ha g (by omega) (h2 g a b), h3.keep2 fun q q1 q2 => World.cell?_of_block (w := w) (hk q.block (by omega) (h2 _ q1 q2))⟩
theorem ApV.form {B : Nat} {w : World} {p : Nat} {lv kv : Value} {x : V} {cs : List Value} (h : ApV B w p lv kv x cs) : ∃ A c A' c', cs = [.int .i64 x.kind, .int .i64 x.num, .string ⟨x.text.toArray⟩, .slice A x.list.length c, .slice A' x.keys.length c'] := by
  obtain ⟨L, N, _, _, _, h3⟩ := h; exact h3.form
theorem ApV.one {B : Nat} {w : World} {p : Nat} {lv kv : Value} {x : V} {cs : List Value} (h : ApV B w p lv kv x cs) : ∀ u ∈ cs, u.oneCell' = true := by
  obtain ⟨L, N, _, _, _, h3⟩ := h; exact five_oneR h3
/-- the object in its variable p, its rows from block B on -/
structure ROut (B p : Nat) (w : World) (lv kv : Value) (l : List V) (ks : List (List UInt8)) (xs : List Value) : Prop where
  var : w.heap[p]? = some (.cells #[.int .i64 6, .int .i64 0, .string ⟨#[]⟩, lv, kv] 25 (0, 0))
  rowL : w.ownsRow B 25 5 lv l.length xs
  rowK : w.ownsRow B 9 1 kv ks.length (ksCells ks)
  far : lv.ownBlock ≠ some p
  elem : ∀ i (h : i < l.length), ∃ c0 c1 c2 c3 c4, xs[i * 5]? = some c0 ∧ xs[i * 5 + 1]? = some c1 ∧ xs[i * 5 + 2]? = some c2 ∧ xs[i * 5 + 3]? = some c3 ∧ xs[i * 5 + 4]? = some c4 ∧ ApV B w p lv kv l[i] [c0, c1, c2, c3, c4]
theorem ROut.start {B p : Nat} {w : World} (hv : w.heap[p]? = some (.cells #[.int .i64 6, .int .i64 0, .string ⟨#[]⟩, .slice none 0 0, .slice none 0 0] 25 (0, 0))) : ROut B p w (.slice none 0 0) (.slice none 0 0) [] [] [] :=
  ⟨hv, ⟨rfl, .inl ⟨rfl, rfl⟩⟩, ⟨rfl, .inl ⟨rfl, rfl⟩⟩, fun e => (by cases e), fun i h => absurd h (Nat.not_lt_zero _)⟩
theorem ROut.psize {B p : Nat} {w : World} {lv kv : Value} {l : List V} {ks : List (List UInt8)} {xs : List Value} (h : ROut B p w lv kv l ks xs) : p < w.heap.size := (Array.getElem?_eq_some_iff.1 h.var).1
theorem ROut.farK {B p : Nat} {w : World} {lv kv : Value} {l : List V} {ks : List (List UInt8)} {xs : List Value} (h : ROut B p w lv kv l ks xs) : kv.ownBlock ≠ some p := own_not h.rowK h.var (by decide)
/-- other blocks made or written -/
theorem ROut.keep {B p : Nat} {w w' : World} {lv kv : Value} {l : List V} {ks : List (List UInt8)} {xs : List Value} (h : ROut B p w lv kv l ks xs) (hb : Below w.heap.size w w') : ROut B p w' lv kv l ks xs := by
  refine ⟨(hb.block _ h.psize).trans h.var, own_below h.rowL hb, own_below h.rowK hb, h.far, fun i hi => ?_⟩
  obtain ⟨c0, c1, c2, c3, c4, e0, e1, e2, e3, e4, hv⟩ := h.elem i hi
  exact ⟨c0, c1, c2, c3, c4, e0, e1, e2, e3, e4, hv.step (fun g hg _ => hb.block g hg) hb.size fun g _ h => h⟩
/-- a block below its rows is written, that is not its own -/
theorem ROut.other {B p q : Nat} {w w' : World} {lv kv : Value} {l : List V} {ks : List (List UInt8)} {xs : List Value} (h : ROut B p w lv kv l ks xs) (hq : q < B) (hqp : q ≠ p) (hb : ∀ k, k ≠ q → w'.heap[k]? = w.heap[k]?) (hs : w.heap.size ≤ w'.heap.size) : ROut B p w' lv kv l ks xs := by
  refine ⟨(hb _ (Ne.symm hqp)).trans h.var, own_kept h.rowL fun g hg => hb g (by have := (h.rowL.lt g hg).1; omega), own_kept h.rowK fun g hg => hb g (by have := (h.rowK.lt g hg).1; omega), h.far, fun i hi => ?_⟩
  obtain ⟨c0, c1, c2, c3, c4, e0, e1, e2, e3, e4, L, N, h0, h1, h2, h3⟩ := h.elem i hi
  refine ⟨c0, c1, c2, c3, c4, e0, e1, e2, e3, e4, L, N, h0, Nat.le_trans h1 hs, h2, h3.keep2 fun r r1 r2 => World.cell?_of_block (w := w) (hb r.block ?_)⟩
  rcases h0 with h0 | h0 <;> omega
/-- a value made since is apart -/
theorem ROut.fresh {B p : Nat} {w w' : World} {lv kv : Value} {l : List V} {ks : List (List UInt8)} {xs : List Value} (h : ROut B p w lv kv l ks xs) {L N : Nat} {x : V} {cs : List Value} (hB : B ≤ w.heap.size) (hL : w.heap.size ≤ L) (hN : N ≤ w'.heap.size) (hv : VIs w' L N x cs) : ApV B w' p lv kv x cs := by
  refine ⟨L, N, .inr (Nat.le_trans hB hL), hN, fun g h1 h2 => ⟨?_, fun e => ?_, fun e => ?_⟩, hv⟩
  · have := h.psize; omega
  · have := (h.rowL.lt g e).2; omega
  · have := (h.rowK.lt g e).2; omega
/-- keys more: behind the append, and the store of the row -/
theorem ROut.keysMore {B p : Nat} {w w2 : World} {lv kv kv' : Value} {l : List V} {ks : List (List UInt8)} {xs : List Value} (h : ROut B p w lv kv l ks xs) (new : List (List UInt8))
    (hown : w2.ownsRow B 9 1 kv' (ks.length + new.length) (ksCells ks ++ ksCells new)) (hg : w.grownBy w2 kv.ownBlock) (hat : kv'.ownBlock = kv.ownBlock ∨ kv'.ownBlock = some w.heap.size) :
    ROut B p (w2.setCell ⟨p, 4, none⟩ kv') lv kv' l (ks ++ new) xs := by
  have hps := h.psize
  have hkp := h.farK
  have hv2 := (hg.block p hps (fun e => hkp e.symm)).trans h.var
  have hkp' := own_not hown hv2 (by decide)
  refine ⟨?_, ?_, ?_, h.far, fun i hi => ?_⟩
  · have := set_here (o := 4) hv2 kv'
    simpa using this
  · exact own_kept h.rowL fun g hgl => (set_there _ (fun e => h.far (by rw [← e]; exact hgl))).trans (hg.block g (h.rowL.lt g hgl).2 (fun e => own_apart h.rowL h.rowK (by decide) g hgl e.symm))
  · rw [List.length_append]
    have : ksCells (ks ++ new) = ksCells ks ++ ksCells new := by simp [ksCells]
    rw [this]
    exact own_kept hown fun g hgk => set_there _ (fun e => hkp' (by rw [← e]; exact hgk))
  · obtain ⟨c0, c1, c2, c3, c4, e0, e1, e2, e3, e4, hv⟩ := h.elem i hi
    refine ⟨c0, c1, c2, c3, c4, e0, e1, e2, e3, e4, hv.step (fun g hgs ⟨a1, a2, a3⟩ => (set_there _ a1).trans (hg.block g hgs fun e => a3 e.symm)) (by rw [set_size]; exact hg.size) fun g hgs ⟨a1, a2, a3⟩ => ⟨a1, a2, fun e => ?_⟩⟩
    rcases hat with ha | ha
    · rw [ha] at e; exact a3 e
    · rw [ha] at e; injection e with e; omega
/-- a value of it is another one -/
theorem ROut.itemSet {B p g c : Nat} {w : World} {kv : Value} {l : List V} {ks : List (List UInt8)} {xs : List Value} (h : ROut B p w (.slice (some ⟨g, 0, none⟩) l.length c) kv l ks xs) (j : Nat) (hj : j < l.length) (x : V) {c0 c1 c2 c3 c4 : Value} (hx : ApV B w p (.slice (some ⟨g, 0, none⟩) l.length c) kv x [c0, c1, c2, c3, c4]) :
    ROut B p (set5 w g (j * 5) c0 c1 c2 c3 c4) (.slice (some ⟨g, 0, none⟩) l.length c) kv (l.set j x) ks (put5 xs (j * 5) c0 c1 c2 c3 c4) := by
  have hgp : g ≠ p := fun e => h.far (by rw [e]; rfl)
  have hlen : xs.length = l.length * 5 := h.rowL.1
  have hr : (set5 w g (j * 5) c0 c1 c2 c3 c4).ownsRow B 25 5 (.slice (some ⟨g, 0, none⟩) l.length c) l.length (put5 xs (j * 5) c0 c1 c2 c3 c4) := by
    have r0 := (h.rowL.stored (j * 5) c0).1
    have r1 := (r0.stored (j * 5 + 1) c1).1
    have r2 := (r1.stored (j * 5 + 2) c2).1
    have r3 := (r2.stored (j * 5 + 3) c3).1
    exact (r3.stored (j * 5 + 4) c4).1
  have hst : ∀ {y : V} {cs : List Value}, ApV B w p (.slice (some ⟨g, 0, none⟩) l.length c) kv y cs → ApV B (set5 w g (j * 5) c0 c1 c2 c3 c4) p (.slice (some ⟨g, 0, none⟩) l.length c) kv y cs := fun hv =>
    hv.step (fun q _ ⟨_, a2, _⟩ => set5_there (fun e => a2 (by rw [e]; rfl))) (by rw [set5_size]; exact Nat.le_refl _) fun q _ h => h
  refine ⟨(set5_there (Ne.symm hgp)).trans h.var, by rw [List.length_set]; exact hr, own_kept h.rowK fun g' hg' => set5_there (fun e => ?_), h.far, fun i hi => ?_⟩
  · exact own_apart h.rowL h.rowK (by decide) g rfl (by rw [← e]; exact hg')
  · rw [List.length_set] at hi
    by_cases hij : i = j
    · subst hij
      obtain ⟨e0, e1, e2, e3, e4⟩ := put5_at (xs := xs) (j := i * 5) (by omega) c0 c1 c2 c3 c4
      exact ⟨c0, c1, c2, c3, c4, e0, e1, e2, e3, e4, by rw [List.getElem_set_self]; exact hst hx⟩
    · obtain ⟨d0, d1, d2, d3, d4, e0, e1, e2, e3, e4, hv⟩ := h.elem i hi
      have ho : ∀ k, k < 5 → (put5 xs (j * 5) c0 c1 c2 c3 c4)[i * 5 + k]? = xs[i * 5 + k]? := fun k hk => put5_other (by omega) c0 c1 c2 c3 c4
      exact ⟨d0, d1, d2, d3, d4, (ho 0 (by decide)).trans e0, (ho 1 (by decide)).trans e1, (ho 2 (by decide)).trans e2, (ho 3 (by decide)).trans e3, (ho 4 (by decide)).trans e4, by rw [List.getElem_set_ne (Ne.symm hij)]; exact hst hv⟩
/-- an item more: behind the append, and the store of the row -/
theorem ROut.itemMore {B p : Nat} {w w2 : World} {lv lv' kv : Value} {l : List V} {ks : List (List UInt8)} {xs ys : List Value} (h : ROut B p w lv kv l ks xs) (x : V) (hy : ∃ c0 c1 c2 c3 c4, ys = [c0, c1, c2, c3, c4] ∧ ApV B w p lv kv x ys)
    (hown : w2.ownsRow B 25 5 lv' (l.length + 1) (xs ++ ys)) (hg : w.grownBy w2 lv.ownBlock) (hat : lv'.ownBlock = lv.ownBlock ∨ lv'.ownBlock = some w.heap.size) :
    ROut B p (w2.setCell ⟨p, 3, none⟩ lv') lv' kv (l ++ [x]) ks (xs ++ ys) := by
  obtain ⟨y0, y1, y2, y3, y4, rfl, hyv⟩ := hy
  have hps := h.psize
  have hxl := h.rowL.1
  have hf : lv'.ownBlock ≠ some p := fun e => by
    rcases hat with ha | ha
    · rw [ha] at e; exact h.far e
    · rw [ha] at e; injection e with e; omega
  have hv2 := (hg.block p hps (fun e => h.far e.symm)).trans h.var
  have hst : ∀ {y : V} {cs : List Value}, ApV B w p lv kv y cs → ApV B (w2.setCell ⟨p, 3, none⟩ lv') p lv' kv y cs := fun hv =>
    hv.step (fun g hgs ⟨a1, a2, a3⟩ => (set_there _ a1).trans (hg.block g hgs fun e => a2 e.symm)) (by rw [set_size]; exact hg.size) fun g hgs ⟨a1, a2, a3⟩ => ⟨a1, fun e => by
      rcases hat with ha | ha
      · rw [ha] at e; exact a2 e
      · rw [ha] at e; injection e with e; omega, a3⟩
  refine ⟨?_, ?_, ?_, hf, fun i hi => ?_⟩
  · have := set_here (o := 3) hv2 lv'
    simpa using this
  · rw [List.length_append, List.length_singleton]
    exact own_kept hown fun g hgl => set_there _ (fun e => hf (by rw [← e]; exact hgl))
  · exact own_kept h.rowK fun g hgk => (set_there _ (fun e => h.farK (by rw [← e]; exact hgk))).trans (hg.block g (h.rowK.lt g hgk).2 (fun e => own_apart h.rowL h.rowK (by decide) g e.symm hgk))
  · rcases Nat.lt_or_ge i l.length with hil | hil
    · obtain ⟨d0, d1, d2, d3, d4, e0, e1, e2, e3, e4, hv⟩ := h.elem i hil
      have hgl : (l ++ [x])[i] = l[i] := List.getElem_append_left hil
      rw [hgl]
      refine ⟨d0, d1, d2, d3, d4, ?_, ?_, ?_, ?_, ?_, hst hv⟩
      · rw [List.getElem?_append_left (by omega)]; exact e0
      · rw [List.getElem?_append_left (by omega)]; exact e1
      · rw [List.getElem?_append_left (by omega)]; exact e2
      · rw [List.getElem?_append_left (by omega)]; exact e3
      · rw [List.getElem?_append_left (by omega)]; exact e4
    · have hie : i = l.length := by simp at hi; omega
      subst hie
      have hgl : (l ++ [x])[l.length] = x := by simp
      rw [hgl]
      exact ⟨y0, y1, y2, y3, y4, app_at hxl _ _ _ _ _ (k := 0) (by decide), app_at hxl _ _ _ _ _ (k := 1) (by decide), app_at hxl _ _ _ _ _ (k := 2) (by decide), app_at hxl _ _ _ _ _ (k := 3) (by decide), app_at hxl _ _ _ _ _ (k := 4) (by decide), hst hyv⟩
/-- what its keys' row reads as -/
theorem ROut.keysIs {B p : Nat} {w : World} {lv kv : Value} {l : List V} {ks : List (List UInt8)} {xs : List Value} (h : ROut B p w lv kv l ks xs) : ∃ A c, kv = .slice A ks.length c ∧ (ks = [] ∨ ∃ b o, A = some ⟨b, o, none⟩ ∧ KIs w 0 w.heap.size ks b o) := by
  have hc := fun g => World.ownsRow.cells (g := g) h.rowK
  rcases h.rowK.2 with ⟨hv, h0⟩ | ⟨g, cap, cur, hv, hB, hg, _⟩
  · exact ⟨none, 0, by rw [hv, h0], .inl (List.length_eq_zero_iff.1 h0)⟩
  · refine ⟨_, _, hv, .inr ⟨g, 0, rfl, KIs.of (Nat.zero_le _) (Array.getElem?_eq_some_iff.1 hg).1 fun i hi => ?_⟩⟩
    have := hc g (by rw [hv]; rfl) i (.string ⟨ks[i].toArray⟩) (by unfold ksCells; rw [List.getElem?_map, List.getElem?_eq_getElem hi]; rfl)
    rwa [Addr.add_lit] at this
/-- it reads as its value -/
theorem ROut.is {B p : Nat} {w : World} {lv kv : Value} {l : List V} {ks : List (List UInt8)} {xs : List Value} (h : ROut B p w lv kv l ks xs) (hl : l.length ≤ 9223372036854775807) (hk : ks.length ≤ 9223372036854775807) (hz : ∀ x ∈ ks, x.length ≤ 9223372036854775807) : VIs w 0 w.heap.size (.mk 6 0 [] l ks) [.int .i64 6, .int .i64 0, .string ⟨#[]⟩, lv, kv] := by
  obtain ⟨A', c', rfl, hA'⟩ := h.keysIs
  obtain ⟨A, c, rfl, hA⟩ : ∃ A c, lv = .slice A l.length c ∧ (l = [] ∨ ∃ b o, A = some ⟨b, o, none⟩ ∧ LIs w 0 w.heap.size l b o) := by
    have hc := fun g => World.ownsRow.cells (g := g) h.rowL
    rcases h.rowL.2 with ⟨hv, h0⟩ | ⟨g, cap, cur, hv, hB, hg, _⟩
    · exact ⟨none, 0, by rw [hv, h0], .inl (List.length_eq_zero_iff.1 h0)⟩
    · refine ⟨_, _, hv, .inr ⟨g, 0, rfl, LIs.of (Nat.zero_le _) (Array.getElem?_eq_some_iff.1 hg).1 fun i hi => ?_⟩⟩
      obtain ⟨c0, c1, c2, c3, c4, e0, e1, e2, e3, e4, L, N, _, hN, _, hv'⟩ := h.elem i hi
      have hcc : ∀ j u, xs[j]? = some u → w.cell? ⟨g, 0 + j, none⟩ = some u := fun j u hu => by
        have := hc g (by rw [hv]; rfl) j u hu
        rwa [Addr.add_lit] at this
      exact ⟨[c0, c1, c2, c3, c4], ⟨c0, c1, c2, c3, c4, rfl, hcc _ _ e0, hcc _ _ e1, hcc _ _ e2, hcc _ _ e3, hcc _ _ e4⟩, hv'.more (Nat.zero_le _) hN⟩
  exact VIs.mk (t := []) ⟨hl, hk, by simp, hz⟩ hA' hA
end Go.Proofs.YtobicmpgfiddhaaDoor
