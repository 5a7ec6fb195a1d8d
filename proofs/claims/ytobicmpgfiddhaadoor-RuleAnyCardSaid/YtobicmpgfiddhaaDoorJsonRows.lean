/- Two rows that a call fills beside a variable that holds them: an object that is being built. -/
import Derived.Test.YtobicmpgfiddhaaDoorJsonGroup0
import Derived.Laws.AppendOwnNone
import Derived.Deep.WholeRow
namespace Go.Proofs.YtobicmpgfiddhaaDoor
open Go.RowKit
set_option linter.unusedVariables false
set_option linter.unusedSimpArgs false


theorem ks_one (ks : List (List UInt8)) : ∀ u ∈ ksCells ks, u.oneCell' = true := by
  intro u hu; obtain ⟨_, _, rfl⟩ := List.mem_map.1 hu; rfl
theorem five_oneR {w : World} {L N : Nat} {x : V} {cs : List Value} (h : VIs w L N x cs) : ∀ u ∈ cs, u.oneCell' = true := by
  obtain ⟨A, c, A', c', rfl⟩ := h.form
  intro u hu
  simp at hu; rcases hu with rfl | rfl | rfl | rfl | rfl <;> rfl
theorem Tryd.infoValR : (Tryd.prog.info? 25).map (fun i => (i.zero, i.size, i.bytes)) = some (some (.agg #[.int .i64 0, .int .i64 0, .string ⟨#[]⟩, .slice none 0 0, .slice none 0 0]), 5, 80) := by kernel_rfl
theorem Tryd.infoStrR : (Tryd.prog.info? 9).map (fun i => (i.zero, i.size, i.bytes)) = some (some (.string ⟨#[]⟩), 1, 16) := by kernel_rfl
/-- the cells of a row of values, with what each five read as -/
theorem flat_items {w : World} {L N b o : Nat} {l : List V} (h : LIs w L N l b o) : ∃ xs : List Value, xs.length = l.length * 5 ∧ (∀ j u, xs[j]? = some u → b < N ∧ w.cell? ⟨b, o + j, none⟩ = some u) ∧ (∀ u ∈ xs, u.oneCell' = true) ∧
    ∀ i (hi : i < l.length), ∃ c0 c1 c2 c3 c4, xs[i * 5]? = some c0 ∧ xs[i * 5 + 1]? = some c1 ∧ xs[i * 5 + 2]? = some c2 ∧ xs[i * 5 + 3]? = some c3 ∧ xs[i * 5 + 4]? = some c4 ∧ VIs w L N l[i] [c0, c1, c2, c3, c4] := by
  obtain ⟨xs, n1, n2, n3⟩ := h.flat
  refine ⟨xs, n1, fun j u hu => ⟨?_, n2 j u hu⟩, n3, fun i hi => ?_⟩
  · have hj := (List.getElem?_eq_some_iff.1 hu).1
    exact (h.get 0 (by omega)).2.1
  · obtain ⟨_, _, cs, ⟨c0, c1, c2, c3, c4, rfl, m0, m1, m2, m3, m4⟩, hv⟩ := h.get i hi
    have key : ∀ k c, k < 5 → w.cell? ⟨b, o + (i * 5 + k), none⟩ = some c → xs[i * 5 + k]? = some c := fun k c hk hc => by
      have hlt : i * 5 + k < xs.length := by omega
      have := n2 (i * 5 + k) xs[i * 5 + k] (List.getElem?_eq_getElem hlt)
      rw [hc] at this
      rw [List.getElem?_eq_getElem hlt]; exact this.symm
    exact ⟨c0, c1, c2, c3, c4, key 0 c0 (by decide) (by simpa using m0), key 1 c1 (by decide) (by rw [← Nat.add_assoc]; exact m1), key 2 c2 (by decide) (by rw [← Nat.add_assoc]; exact m2), key 3 c3 (by decide) (by rw [← Nat.add_assoc]; exact m3), key 4 c4 (by decide) (by rw [← Nat.add_assoc]; exact m4), hv⟩
/-- an object in a variable at p, its rows of the call's own from B on; what lies in it, lies as it lay in w, in blocks L to N -/
structure OSt (B p L N : Nat) (w wr : World) (lv kv : Value) (l : List V) (ks : List (List UInt8)) (xs : List Value) : Prop where
  var : wr.heap[p]? = some (.cells #[.int .i64 6, .int .i64 0, .string ⟨#[]⟩, lv, kv] 25 (0, 0))
  rowL : wr.ownsRow B 25 5 lv l.length xs
  rowK : wr.ownsRow B 9 1 kv ks.length (ksCells ks)
  far : lv.ownBlock ≠ some p
  elem : ∀ i (h : i < l.length), ∃ c0 c1 c2 c3 c4, xs[i * 5]? = some c0 ∧ xs[i * 5 + 1]? = some c1 ∧ xs[i * 5 + 2]? = some c2 ∧ xs[i * 5 + 3]? = some c3 ∧ xs[i * 5 + 4]? = some c4 ∧ VIs w L N l[i] [c0, c1, c2, c3, c4]
  low : Below B w wr
/-- the object as it is made -/
theorem OSt.start {B p L N : Nat} {w wr : World} {lv kv : Value} {l : List V} {ks : List (List UInt8)} {xs : List Value} (hp : B ≤ p)
    (hv : wr.heap[p]? = some (.cells #[.int .i64 0, .int .i64 0, .string ⟨#[]⟩, .slice none 0 0, .slice none 0 0] 25 (0, 0)))
    (hL : wr.ownsRow B 25 5 lv l.length xs) (hK : wr.ownsRow B 9 1 kv ks.length (ksCells ks)) (hf : lv.ownBlock ≠ some p)
    (he : ∀ i (h : i < l.length), ∃ c0 c1 c2 c3 c4, xs[i * 5]? = some c0 ∧ xs[i * 5 + 1]? = some c1 ∧ xs[i * 5 + 2]? = some c2 ∧ xs[i * 5 + 3]? = some c3 ∧ xs[i * 5 + 4]? = some c4 ∧ VIs w L N l[i] [c0, c1, c2, c3, c4]) (hb : Below B w wr) :
    OSt B p L N w (set5 wr p 0 (.int .i64 6) (.int .i64 0) (.string ⟨#[]⟩) lv kv) lv kv l ks xs := by
  refine ⟨?_, own_kept hL fun g hg => set5_there (fun e => hf (by rw [← e]; exact hg)), own_kept hK fun g hg => set5_there (fun e => own_not hK hv (by decide) (by rw [← e]; exact hg)), hf, he, hb.trans (set5_below hp)⟩
  have := set5_here (o := 0) (c0 := .int .i64 6) (c1 := .int .i64 0) (c2 := .string ⟨#[]⟩) (c3 := lv) (c4 := kv) hv
  simpa using this
/-- a key and an item more: two rows that have grown, then both stored -/
theorem OSt.grow {B p L N : Nat} {w wr wz : World} {lv kv lv' kv' : Value} {l : List V} {ks : List (List UInt8)} {xs : List Value} {c0 c1 c2 c3 c4 : Value} (h : OSt B p L N w wr lv kv l ks xs) (hp : B ≤ p) (t : List UInt8) (x : V)
    (hx : VIs w L N x [c0, c1, c2, c3, c4]) (hv : wz.heap[p]? = some (.cells #[.int .i64 6, .int .i64 0, .string ⟨#[]⟩, lv, kv] 25 (0, 0)))
    (hK : wz.ownsRow B 9 1 kv' (ks.length + 1) (ksCells ks ++ [.string ⟨t.toArray⟩])) (hL : wz.ownsRow B 25 5 lv' (l.length + 1) (xs ++ [c0, c1, c2, c3, c4])) (hf : lv'.ownBlock ≠ some p) (hb : Below B w wz) :
    OSt B p L N w ((wz.setCell ⟨p, 4, none⟩ kv').setCell ⟨p, 3, none⟩ lv') lv' kv' (l ++ [x]) (ks ++ [t]) (xs ++ [c0, c1, c2, c3, c4]) := by
  have hxl := h.rowL.1
  have hne : ∀ b, b ≠ p → ((wz.setCell ⟨p, 4, none⟩ kv').setCell ⟨p, 3, none⟩ lv').heap[b]? = wz.heap[b]? := fun b hb => by rw [set_there _ hb, set_there _ hb]
  refine ⟨?_, ?_, ?_, hf, fun i hi => ?_, ?_⟩
  · have := set_here (o := 3) (set_here (o := 4) hv kv') lv'
    simpa using this
  · rw [List.length_append, List.length_singleton]
    exact own_kept hL fun g hg => hne g (fun e => hf (by rw [← e]; exact hg))
  · rw [ksCells_snoc, List.length_append, List.length_singleton]
    exact own_kept hK fun g hg => hne g (fun e => own_not hK hv (by decide) (by rw [← e]; exact hg))
  · rcases Nat.lt_or_ge i l.length with hil | hil
    · obtain ⟨d0, d1, d2, d3, d4, e0, e1, e2, e3, e4, hv⟩ := h.elem i hil
      have hgl : (l ++ [x])[i] = l[i] := List.getElem_append_left hil
      rw [hgl]
      refine ⟨d0, d1, d2, d3, d4, ?_, ?_, ?_, ?_, ?_, hv⟩
      · rw [List.getElem?_append_left (by omega)]; exact e0
      · rw [List.getElem?_append_left (by omega)]; exact e1
      · rw [List.getElem?_append_left (by omega)]; exact e2
      · rw [List.getElem?_append_left (by omega)]; exact e3
      · rw [List.getElem?_append_left (by omega)]; exact e4
    · have hie : i = l.length := by simp at hi; omega
      subst hie
      have hgl : (l ++ [x])[l.length] = x := by simp
      rw [hgl]
      exact ⟨c0, c1, c2, c3, c4, app_at hxl _ _ _ _ _ (k := 0) (by decide), app_at hxl _ _ _ _ _ (k := 1) (by decide), app_at hxl _ _ _ _ _ (k := 2) (by decide), app_at hxl _ _ _ _ _ (k := 3) (by decide), app_at hxl _ _ _ _ _ (k := 4) (by decide), hx⟩
  · exact (hb.setCell (p := ⟨p, 4, none⟩) hp _).setCell (p := ⟨p, 3, none⟩) hp _
/-- the whole, with another block written -/
theorem OSt.done {B p L N r : Nat} {w wr wf : World} {lv kv : Value} {l : List V} {ks : List (List UInt8)} {xs : List Value} (h : OSt B p L N w wr lv kv l ks xs) (hp : B ≤ p) (hLB : L ≤ B) (hN : N ≤ B) (hr : r < B) (hrN : N ≤ r) (hl : l.length ≤ 9223372036854775807) (hk : ks.length ≤ 9223372036854775807) (hz : ∀ x ∈ ks, x.length ≤ 9223372036854775807)
    (hf : ∀ b, b ≠ r → wf.heap[b]? = wr.heap[b]?) (hs : wf.heap.size = wr.heap.size) : VIs wf L wf.heap.size (.mk 6 0 [] l ks) [.int .i64 6, .int .i64 0, .string ⟨#[]⟩, lv, kv] := by
  obtain ⟨h1, h3, h4, _, h5, h7⟩ := h
  have hcell : ∀ p : Addr, p.block ≠ r → wf.cell? p = wr.cell? p := fun p hp => World.cell?_of_block (w := wr) (hf _ hp)
  have hps := (Array.getElem?_eq_some_iff.1 h1).1
  have hBs : B ≤ wf.heap.size := by rw [hs]; omega
  obtain ⟨A, c, rfl, hA⟩ : ∃ A c, lv = .slice A l.length c ∧ (l = [] ∨ ∃ b o, A = some ⟨b, o, none⟩ ∧ LIs wf L wf.heap.size l b o) := by
    have hc := fun g => World.ownsRow.cells (g := g) h3
    rcases h3.2 with ⟨hv, h0⟩ | ⟨g, cap, cur, hv, hB, hg, _⟩
    · exact ⟨none, 0, by rw [hv, h0], .inl (List.length_eq_zero_iff.1 h0)⟩
    · refine ⟨_, _, hv, .inr ⟨g, 0, rfl, LIs.of (by omega) (by rw [hs]; exact (Array.getElem?_eq_some_iff.1 hg).1) fun i hi => ?_⟩⟩
      obtain ⟨c0, c1, c2, c3, c4, e0, e1, e2, e3, e4, hv'⟩ := h5 i hi
      have hcc : ∀ j u, xs[j]? = some u → wf.cell? ⟨g, 0 + j, none⟩ = some u := fun j u hu => by
        rw [hcell _ (by show g ≠ r; omega)]
        have := hc g (by rw [hv]; rfl) j u hu
        rwa [Addr.add_lit] at this
      refine ⟨[c0, c1, c2, c3, c4], ⟨c0, c1, c2, c3, c4, rfl, hcc _ _ e0, hcc _ _ e1, hcc _ _ e2, hcc _ _ e3, hcc _ _ e4⟩, ?_⟩
      exact ((hv'.below (h7.mono hN)).keep2 fun p hp1 hp2 => hcell p (by omega)).more (Nat.le_refl _) (by omega)
  obtain ⟨A', c', rfl, hA'⟩ : ∃ A c, kv = .slice A ks.length c ∧ (ks = [] ∨ ∃ b o, A = some ⟨b, o, none⟩ ∧ KIs wf L wf.heap.size ks b o) := by
    have hc := fun g => World.ownsRow.cells (g := g) h4
    rcases h4.2 with ⟨hv, h0⟩ | ⟨g, cap, cur, hv, hB, hg, _⟩
    · exact ⟨none, 0, by rw [hv, h0], .inl (List.length_eq_zero_iff.1 h0)⟩
    · refine ⟨_, _, hv, .inr ⟨g, 0, rfl, KIs.of (by omega) (by rw [hs]; exact (Array.getElem?_eq_some_iff.1 hg).1) fun i hi => ?_⟩⟩
      rw [hcell _ (by show g ≠ r; omega)]
      have := hc g (by rw [hv]; rfl) i (.string ⟨ks[i].toArray⟩) (by unfold ksCells; rw [List.getElem?_map, List.getElem?_eq_getElem hi]; rfl)
      rwa [Addr.add_lit] at this
  exact VIs.mk (t := []) ⟨hl, hk, by simp, hz⟩ hA' hA
/-- the rows that Put answers, by their cells: of the old row's cells, and the keys -/
def PutCells (w w' : World) (A : Option Addr) (n : Nat) (f : List Value → List Value) (lv : Value) (n' : Nat) (kv : Value) (ks : List (List UInt8)) : Prop :=
  ∃ xs : List Value, xs.length = n * 5 ∧ (∀ b o, A = some ⟨b, o, none⟩ → ∀ j u, xs[j]? = some u → w.cell? ⟨b, o + j, none⟩ = some u) ∧ w'.ownsRow w.heap.size 25 5 lv n' (f xs) ∧ w'.ownsRow w.heap.size 9 1 kv ks.length (ksCells ks)
/-- what the reference's Put does of a key that the object lacks -/
def PutNew : Prop := ∀ (k n : Int) (t : List UInt8) (l : List V) (ks : List (List UInt8)) (key : List UInt8) (x : V) (w : World) (L N L0 N0 : Nat) (A A' : Option Addr) (c c' : Nat) (x0 x1 x2 x3 x4 : Value)
    (hl : l.length ≤ 100000) (hk : ks.length ≤ 100000) (hz : ∀ y ∈ ks, y.length ≤ 9223372036854775807) (hkz : key.length ≤ 9223372036854775807) (hne : key ∉ ks) (hN : N ≤ w.heap.size) (hN0 : N0 ≤ w.heap.size) (hL0 : L0 ≤ w.heap.size)
    (hnil : (A = none ∧ A' = none ∧ l = [] ∧ ks = [] ∧ c = 0 ∧ c' = 0) ∨ ∃ b o b' o', A = some ⟨b, o, none⟩ ∧ A' = some ⟨b', o', none⟩ ∧ LIs w L N l b o ∧ KIs w L N ks b' o')
    (hit : ∀ i (h : i < l.length) cs, VIs w L N l[i] cs → VIs w L0 N0 l[i] cs) (hx : VIs w L0 N0 x [x0, x1, x2, x3, x4]),
    Calls Tryd.prog 16 #[.agg #[.int .i64 k, .int .i64 n, .string ⟨t.toArray⟩, .slice A l.length c, .slice A' ks.length c'], .string ⟨key.toArray⟩, .agg #[x0, x1, x2, x3, x4]] w fun e w' => ∃ B b B' b', e = .returned (.agg #[.int .i64 6, .int .i64 0, .string ⟨#[]⟩, .slice B (l.length + 1) b, .slice B' (ks.length + 1) b']) ∧
      VIs w' L0 w'.heap.size (.mk 6 0 [] (l ++ [x]) (ks ++ [key])) [.int .i64 6, .int .i64 0, .string ⟨#[]⟩, .slice B (l.length + 1) b, .slice B' (ks.length + 1) b'] ∧ Below w.heap.size w w'
/-- with the cells of the rows -/
def PutNewX : Prop := ∀ (k n : Int) (t : List UInt8) (l : List V) (ks : List (List UInt8)) (key : List UInt8) (x : V) (w : World) (L N L0 N0 : Nat) (A A' : Option Addr) (c c' : Nat) (x0 x1 x2 x3 x4 : Value)
    (hl : l.length ≤ 100000) (hk : ks.length ≤ 100000) (hz : ∀ y ∈ ks, y.length ≤ 9223372036854775807) (hkz : key.length ≤ 9223372036854775807) (hne : key ∉ ks) (hN : N ≤ w.heap.size) (hN0 : N0 ≤ w.heap.size) (hL0 : L0 ≤ w.heap.size)
    (hnil : (A = none ∧ A' = none ∧ l = [] ∧ ks = [] ∧ c = 0 ∧ c' = 0) ∨ ∃ b o b' o', A = some ⟨b, o, none⟩ ∧ A' = some ⟨b', o', none⟩ ∧ LIs w L N l b o ∧ KIs w L N ks b' o')
    (hit : ∀ i (h : i < l.length) cs, VIs w L N l[i] cs → VIs w L0 N0 l[i] cs) (hx : VIs w L0 N0 x [x0, x1, x2, x3, x4]),
    Calls Tryd.prog 16 #[.agg #[.int .i64 k, .int .i64 n, .string ⟨t.toArray⟩, .slice A l.length c, .slice A' ks.length c'], .string ⟨key.toArray⟩, .agg #[x0, x1, x2, x3, x4]] w fun e w' => ∃ B b B' b', e = .returned (.agg #[.int .i64 6, .int .i64 0, .string ⟨#[]⟩, .slice B (l.length + 1) b, .slice B' (ks.length + 1) b']) ∧
      VIs w' L0 w'.heap.size (.mk 6 0 [] (l ++ [x]) (ks ++ [key])) [.int .i64 6, .int .i64 0, .string ⟨#[]⟩, .slice B (l.length + 1) b, .slice B' (ks.length + 1) b'] ∧ Below w.heap.size w w' ∧
      PutCells w w' A l.length (· ++ [x0, x1, x2, x3, x4]) (.slice B (l.length + 1) b) (l.length + 1) (.slice B' (ks.length + 1) b') (ks ++ [key])
end Go.Proofs.YtobicmpgfiddhaaDoor
