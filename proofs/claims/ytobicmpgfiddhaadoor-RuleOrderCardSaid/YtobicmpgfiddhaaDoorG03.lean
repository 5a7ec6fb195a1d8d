/- Texts merged by program, in build order: JsonRows, PutSet, KeyAt, JsonUnlike, JsonFit, JsonWithin, JsonFits. -/
import Derived.Test.YtobicmpgfiddhaaDoorG02
import Derived.Laws.AppendOwnNone
import Derived.Deep.WholeRow
import Derived.Laws.OwnMore
import Derived.Test.YtobicmpgfiddhaaDoorG01
import Derived.Maps.OwnSet
import Derived.Deep.RegionHeld3
namespace Go.Proofs.YtobicmpgfiddhaaDoor
open Go.RowKit
set_option linter.unusedVariables false
set_option linter.unusedSimpArgs false


theorem ks_one (ks : List (List UInt8)) : ∀ u ∈ ksCells ks, u.oneCell' = true := by
  intro u hu; obtain ⟨_, _, rfl⟩ := List.mem_map.1 hu; rfl
theorem five_oneR {w : World} {L N : Nat} {x : V} {cs : List Value} (h : VIs w L N x cs) : ∀ u ∈ cs, u.oneCell' = true := by
  obtain ⟨A, c, A', c', rfl⟩ := h.form
  intro u hu
  simp at hu; rcases hu with rfl | rfl | rfl | rfl | rfl <;> rfl
theorem Tryd.infoValR : (Tryd.prog.info? 25).map (fun i => (i.zero, i.size, i.bytes)) = some (some (.agg #[.int .i64 0, .int .i64 0, .string ⟨#[]⟩, .slice none 0 0, .slice none 0 0]), 5, 80) := by kernel_rfl
theorem Tryd.infoStrR : (Tryd.prog.info? 9).map (fun i => (i.zero, i.size, i.bytes)) = some (some (.string ⟨#[]⟩), 1, 16) := by kernel_rfl
/-- the cells of a row of values, with what each five read as -/
theorem flat_items {w : World} {L N b o : Nat} {l : List V} (h : LIs w L N l b o) : ∃ xs : List Value, xs.length = l.length * 5 ∧ (∀ j u, xs[j]? = some u → b < N ∧ w.cell? ⟨b, o + j, none⟩ = some u) ∧ (∀ u ∈ xs, u.oneCell' = true) ∧
    ∀ i (hi : i < l.length), ∃ c0 c1 c2 c3 c4, xs[i * 5]? = some c0 ∧ xs[i * 5 + 1]? = some c1 ∧ xs[i * 5 + 2]? = some c2 ∧ xs[i * 5 + 3]? = some c3 ∧ xs[i * 5 + 4]? = some c4 ∧ VIs w L N l[i] [c0, c1, c2, c3, c4] := by
  obtain ⟨xs, n1, n2, n3⟩ := h.flat
  refine ⟨xs, n1, fun j u hu => ⟨?_, n2 j u hu⟩, n3, fun i hi => ?_⟩
  · have hj := (List.getElem?_eq_some_iff.1 hu).1
    exact (h.get 0 (by omega)).2.1
  · obtain ⟨_, _, cs, ⟨c0, c1, c2, c3, c4, rfl, m0, m1, m2, m3, m4⟩, hv⟩ := h.get i hi
    have key : ∀ k c, k < 5 → w.cell? ⟨b, o + (i * 5 + k), none⟩ = some c → xs[i * 5 + k]? = some c := fun k c hk hc => by
      have hlt : i * 5 + k < xs.length := by omega
      have := n2 (i * 5 + k) xs[i * 5 + k] (List.getElem?_eq_getElem hlt)
      rw [hc] at this
      rw [List.getElem?_eq_getElem hlt]; exact this.symm
    exact ⟨c0, c1, c2, c3, c4, key 0 c0 (by decide) (by simpa using m0), key 1 c1 (by decide) (by rw [← Nat.add_assoc]; exact m1), key 2 c2 (by decide) (by rw [← Nat.add_assoc]; exact m2), key 3 c3 (by decide) (by rw [← Nat.add_assoc]; exact m3), key 4 c4 (by decide) (by rw [← Nat.add_assoc]; exact m4), hv⟩
/-- an object in a variable at p, its rows of the call's own from B on; what lies in it, lies as it lay in w, in blocks L to N -/
structure OSt (B p L N : Nat) (w wr : World) (lv kv : Value) (l : List V) (ks : List (List UInt8)) (xs : List Value) : Prop where
  var : wr.heap[p]? = some (.cells #[.int .i64 6, .int .i64 0, .string ⟨#[]⟩, lv, kv] 25 (0, 0))
  rowL : wr.ownsRow B 25 5 lv l.length xs
  rowK : wr.ownsRow B 9 1 kv ks.length (ksCells ks)
  far : lv.ownBlock ≠ some p
  elem : ∀ i (h : i < l.length), ∃ c0 c1 c2 c3 c4, xs[i * 5]? = some c0 ∧ xs[i * 5 + 1]? = some c1 ∧ xs[i * 5 + 2]? = some c2 ∧ xs[i * 5 + 3]? = some c3 ∧ xs[i * 5 + 4]? = some c4 ∧ VIs w L N l[i] [c0, c1, c2, c3, c4]
  low : Below B w wr
/-- the object as it is made -/
theorem OSt.start {B p L N : Nat} {w wr : World} {lv kv : Value} {l : List V} {ks : List (List UInt8)} {xs : List Value} (hp : B ≤ p)
    (hv : wr.heap[p]? = some (.cells #[.int .i64 0, .int .i64 0, .string ⟨#[]⟩, .slice none 0 0, .slice none 0 0] 25 (0, 0)))
    (hL : wr.ownsRow B 25 5 lv l.length xs) (hK : wr.ownsRow B 9 1 kv ks.length (ksCells ks)) (hf : lv.ownBlock ≠ some p)
    (he : ∀ i (h : i < l.length), ∃ c0 c1 c2 c3 c4, xs[i * 5]? = some c0 ∧ xs[i * 5 + 1]? = some c1 ∧ xs[i * 5 + 2]? = some c2 ∧ xs[i * 5 + 3]? = some c3 ∧ xs[i * 5 + 4]? = some c4 ∧ VIs w L N l[i] [c0, c1, c2, c3, c4]) (hb : Below B w wr) :
    OSt B p L N w (set5 wr p 0 (.int .i64 6) (.int .i64 0) (.string ⟨#[]⟩) lv kv) lv kv l ks xs := by
  refine ⟨?_, own_kept hL fun g hg => set5_there (fun e => hf (by rw [← e]; exact hg)), own_kept hK fun g hg => set5_there (fun e => own_not hK hv (by decide) (by rw [← e]; exact hg)), hf, he, hb.trans (set5_below hp)⟩
  have := set5_here (o := 0) (c0 := .int .i64 6) (c1 := .int .i64 0) (c2 := .string ⟨#[]⟩) (c3 := lv) (c4 := kv) hv
  simpa using this
/-- a key and an item more: two rows that have grown, then both stored -/
theorem OSt.grow {B p L N : Nat} {w wr wz : World} {lv kv lv' kv' : Value} {l : List V} {ks : List (List UInt8)} {xs : List Value} {c0 c1 c2 c3 c4 : Value} (h : OSt B p L N w wr lv kv l ks xs) (hp : B ≤ p) (t : List UInt8) (x : V)
    (hx : VIs w L N x [c0, c1, c2, c3, c4]) (hv : wz.heap[p]? = some (.cells #[.int .i64 6, .int .i64 0, .string ⟨#[]⟩, lv, kv] 25 (0, 0)))
    (hK : wz.ownsRow B 9 1 kv' (ks.length + 1) (ksCells ks ++ [.string ⟨t.toArray⟩])) (hL : wz.ownsRow B 25 5 lv' (l.length + 1) (xs ++ [c0, c1, c2, c3, c4])) (hf : lv'.ownBlock ≠ some p) (hb : Below B w wz) :
    OSt B p L N w ((wz.setCell ⟨p, 4, none⟩ kv').setCell ⟨p, 3, none⟩ lv') lv' kv' (l ++ [x]) (ks ++ [t]) (xs ++ [c0, c1, c2, c3, c4]) := by
  have hxl := h.rowL.1
  have hne : ∀ b, b ≠ p → ((wz.setCell ⟨p, 4, none⟩ kv').setCell ⟨p, 3, none⟩ lv').heap[b]? = wz.heap[b]? := fun b hb => by rw [set_there _ hb, set_there _ hb]
  refine ⟨?_, ?_, ?_, hf, fun i hi => ?_, ?_⟩
  · have := set_here (o := 3) (set_here (o := 4) hv kv') lv'
    simpa using this
  · rw [List.length_append, List.length_singleton]
    exact own_kept hL fun g hg => hne g (fun e => hf (by rw [← e]; exact hg))
  · rw [ksCells_snoc, List.length_append, List.length_singleton]
    exact own_kept hK fun g hg => hne g (fun e => own_not hK hv (by decide) (by rw [← e]; exact hg))
  · rcases Nat.lt_or_ge i l.length with hil | hil
    · obtain ⟨d0, d1, d2, d3, d4, e0, e1, e2, e3, e4, hv⟩ := h.elem i hil
      have hgl : (l ++ [x])[i] = l[i] := List.getElem_append_left hil
      rw [hgl]
      refine ⟨d0, d1, d2, d3, d4, ?_, ?_, ?_, ?_, ?_, hv⟩
      · rw [List.getElem?_append_left (by omega)]; exact e0
      · rw [List.getElem?_append_left (by omega)]; exact e1
      · rw [List.getElem?_append_left (by omega)]; exact e2
      · rw [List.getElem?_append_left (by omega)]; exact e3
      · rw [List.getElem?_append_left (by omega)]; exact e4
    · have hie : i = l.length := by simp at hi; omega
      subst hie
      have hgl : (l ++ [x])[l.length] = x := by simp
      rw [hgl]
      exact ⟨c0, c1, c2, c3, c4, app_at hxl _ _ _ _ _ (k := 0) (by decide), app_at hxl _ _ _ _ _ (k := 1) (by decide), app_at hxl _ _ _ _ _ (k := 2) (by decide), app_at hxl _ _ _ _ _ (k := 3) (by decide), app_at hxl _ _ _ _ _ (k := 4) (by decide), hx⟩
  · exact (hb.setCell (p := ⟨p, 4, none⟩) hp _).setCell (p := ⟨p, 3, none⟩) hp _
/-- the whole, with another block written -/
theorem OSt.done {B p L N r : Nat} {w wr wf : World} {lv kv : Value} {l : List V} {ks : List (List UInt8)} {xs : List Value} (h : OSt B p L N w wr lv kv l ks xs) (hp : B ≤ p) (hLB : L ≤ B) (hN : N ≤ B) (hr : r < B) (hrN : N ≤ r) (hl : l.length ≤ 9223372036854775807) (hk : ks.length ≤ 9223372036854775807) (hz : ∀ x ∈ ks, x.length ≤ 9223372036854775807)
    (hf : ∀ b, b ≠ r → wf.heap[b]? = wr.heap[b]?) (hs : wf.heap.size = wr.heap.size) : VIs wf L wf.heap.size (.mk 6 0 [] l ks) [.int .i64 6, .int .i64 0, .string ⟨#[]⟩, lv, kv] := by
  obtain ⟨h1, h3, h4, _, h5, h7⟩ := h
  have hcell : ∀ p : Addr, p.block ≠ r → wf.cell? p = wr.cell? p := fun p hp => World.cell?_of_block (w := wr) (hf _ hp)
  have hps := (Array.getElem?_eq_some_iff.1 h1).1
  have hBs : B ≤ wf.heap.size := by rw [hs]; omega
  obtain ⟨A, c, rfl, hA⟩ : ∃ A c, lv = .slice A l.length c ∧ (l = [] ∨ ∃ b o, A = some ⟨b, o, none⟩ ∧ LIs wf L wf.heap.size l b o) := by
    have hc := fun g => World.ownsRow.cells (g := g) h3
    rcases h3.2 with ⟨hv, h0⟩ | ⟨g, cap, cur, hv, hB, hg, _⟩
    · exact ⟨none, 0, by rw [hv, h0], .inl (List.length_eq_zero_iff.1 h0)⟩
    · refine ⟨_, _, hv, .inr ⟨g, 0, rfl, LIs.of (by omega) (by rw [hs]; exact (Array.getElem?_eq_some_iff.1 hg).1) fun i hi => ?_⟩⟩
      obtain ⟨c0, c1, c2, c3, c4, e0, e1, e2, e3, e4, hv'⟩ := h5 i hi
      have hcc : ∀ j u, xs[j]? = some u → wf.cell? ⟨g, 0 + j, none⟩ = some u := fun j u hu => by
        rw [hcell _ (by show g ≠ r; omega)]
        have := hc g (by rw [hv]; rfl) j u hu
        rwa [Addr.add_lit] at this
      refine ⟨[c0, c1, c2, c3, c4], ⟨c0, c1, c2, c3, c4, rfl, hcc _ _ e0, hcc _ _ e1, hcc _ _ e2, hcc _ _ e3, hcc _ _ e4⟩, ?_⟩
      exact ((hv'.below (h7.mono hN)).keep2 fun p hp1 hp2 => hcell p (by omega)).more (Nat.le_refl _) (by omega)
  obtain ⟨A', c', rfl, hA'⟩ : ∃ A c, kv = .slice A ks.length c ∧ (ks = [] ∨ ∃ b o, A = some ⟨b, o, none⟩ ∧ KIs wf L wf.heap.size ks b o) := by
    have hc := fun g => World.ownsRow.cells (g := g) h4
    rcases h4.2 with ⟨hv, h0⟩ | ⟨g, cap, cur, hv, hB, hg, _⟩
    · exact ⟨none, 0, by rw [hv, h0], .inl (List.length_eq_zero_iff.1 h0)⟩
    · refine ⟨_, _, hv, .inr ⟨g, 0, rfl, KIs.of (by omega) (by rw [hs]; exact (Array.getElem?_eq_some_iff.1 hg).1) fun i hi => ?_⟩⟩
      rw [hcell _ (by show g ≠ r; omega)]
      have := hc g (by rw [hv]; rfl) i (.string ⟨ks[i].toArray⟩) (by unfold ksCells; rw [List.getElem?_map, List.getElem?_eq_getElem hi]; rfl)
      rwa [Addr.add_lit] at this
  exact VIs.mk (t := []) ⟨hl, hk, by simp, hz⟩ hA' hA
/-- the rows that Put answers, by their cells: of the old row's cells, and the keys -/
def PutCells (w w' : World) (A : Option Addr) (n : Nat) (f : List Value → List Value) (lv : Value) (n' : Nat) (kv : Value) (ks : List (List UInt8)) : Prop :=
  ∃ xs : List Value, xs.length = n * 5 ∧ (∀ b o, A = some ⟨b, o, none⟩ → ∀ j u, xs[j]? = some u → w.cell? ⟨b, o + j, none⟩ = some u) ∧ w'.ownsRow w.heap.size 25 5 lv n' (f xs) ∧ w'.ownsRow w.heap.size 9 1 kv ks.length (ksCells ks)
/-- what the reference's Put does of a key that the object lacks -/
def PutNew : Prop := ∀ (k n : Int) (t : List UInt8) (l : List V) (ks : List (List UInt8)) (key : List UInt8) (x : V) (w : World) (L N L0 N0 : Nat) (A A' : Option Addr) (c c' : Nat) (x0 x1 x2 x3 x4 : Value)
    (hl : l.length ≤ 100000) (hk : ks.length ≤ 100000) (hz : ∀ y ∈ ks, y.length ≤ 9223372036854775807) (hkz : key.length ≤ 9223372036854775807) (hne : key ∉ ks) (hN : N ≤ w.heap.size) (hN0 : N0 ≤ w.heap.size) (hL0 : L0 ≤ w.heap.size)
    (hnil : (A = none ∧ A' = none ∧ l = [] ∧ ks = [] ∧ c = 0 ∧ c' = 0) ∨ ∃ b o b' o', A = some ⟨b, o, none⟩ ∧ A' = some ⟨b', o', none⟩ ∧ LIs w L N l b o ∧ KIs w L N ks b' o')
    (hit : ∀ i (h : i < l.length) cs, VIs w L N l[i] cs → VIs w L0 N0 l[i] cs) (hx : VIs w L0 N0 x [x0, x1, x2, x3, x4]),
    Calls Tryd.prog 16 #[.agg #[.int .i64 k, .int .i64 n, .string ⟨t.toArray⟩, .slice A l.length c, .slice A' ks.length c'], .string ⟨key.toArray⟩, .agg #[x0, x1, x2, x3, x4]] w fun e w' => ∃ B b B' b', e = .returned (.agg #[.int .i64 6, .int .i64 0, .string ⟨#[]⟩, .slice B (l.length + 1) b, .slice B' (ks.length + 1) b']) ∧
      VIs w' L0 w'.heap.size (.mk 6 0 [] (l ++ [x]) (ks ++ [key])) [.int .i64 6, .int .i64 0, .string ⟨#[]⟩, .slice B (l.length + 1) b, .slice B' (ks.length + 1) b'] ∧ Below w.heap.size w w'
/-- with the cells of the rows -/
def PutNewX : Prop := ∀ (k n : Int) (t : List UInt8) (l : List V) (ks : List (List UInt8)) (key : List UInt8) (x : V) (w : World) (L N L0 N0 : Nat) (A A' : Option Addr) (c c' : Nat) (x0 x1 x2 x3 x4 : Value)
    (hl : l.length ≤ 100000) (hk : ks.length ≤ 100000) (hz : ∀ y ∈ ks, y.length ≤ 9223372036854775807) (hkz : key.length ≤ 9223372036854775807) (hne : key ∉ ks) (hN : N ≤ w.heap.size) (hN0 : N0 ≤ w.heap.size) (hL0 : L0 ≤ w.heap.size)
    (hnil : (A = none ∧ A' = none ∧ l = [] ∧ ks = [] ∧ c = 0 ∧ c' = 0) ∨ ∃ b o b' o', A = some ⟨b, o, none⟩ ∧ A' = some ⟨b', o', none⟩ ∧ LIs w L N l b o ∧ KIs w L N ks b' o')
    (hit : ∀ i (h : i < l.length) cs, VIs w L N l[i] cs → VIs w L0 N0 l[i] cs) (hx : VIs w L0 N0 x [x0, x1, x2, x3, x4]),
    Calls Tryd.prog 16 #[.agg #[.int .i64 k, .int .i64 n, .string ⟨t.toArray⟩, .slice A l.length c, .slice A' ks.length c'], .string ⟨key.toArray⟩, .agg #[x0, x1, x2, x3, x4]] w fun e w' => ∃ B b B' b', e = .returned (.agg #[.int .i64 6, .int .i64 0, .string ⟨#[]⟩, .slice B (l.length + 1) b, .slice B' (ks.length + 1) b']) ∧
      VIs w' L0 w'.heap.size (.mk 6 0 [] (l ++ [x]) (ks ++ [key])) [.int .i64 6, .int .i64 0, .string ⟨#[]⟩, .slice B (l.length + 1) b, .slice B' (ks.length + 1) b'] ∧ Below w.heap.size w w' ∧
      PutCells w w' A l.length (· ++ [x0, x1, x2, x3, x4]) (.slice B (l.length + 1) b) (l.length + 1) (.slice B' (ks.length + 1) b') (ks ++ [key])
end Go.Proofs.YtobicmpgfiddhaaDoor
namespace Go.Proofs.YtobicmpgfiddhaaDoor
open Go.RowKit
set_option linter.unusedVariables false
set_option linter.unusedSimpArgs false

def put5 (xs : List Value) (j : Nat) (c0 c1 c2 c3 c4 : Value) : List Value := ((((xs.set j c0).set (j + 1) c1).set (j + 2) c2).set (j + 3) c3).set (j + 4) c4
theorem put5_at {xs : List Value} {j : Nat} (h : j + 5 ≤ xs.length) (c0 c1 c2 c3 c4 : Value) : (put5 xs j c0 c1 c2 c3 c4)[j]? = some c0 ∧ (put5 xs j c0 c1 c2 c3 c4)[j + 1]? = some c1 ∧ (put5 xs j c0 c1 c2 c3 c4)[j + 2]? = some c2 ∧ (put5 xs j c0 c1 c2 c3 c4)[j + 3]? = some c3 ∧ (put5 xs j c0 c1 c2 c3 c4)[j + 4]? = some c4 := by
  unfold put5
  refine ⟨?_, ?_, ?_, ?_, ?_⟩ <;> simp [List.getElem?_set] <;> omega
theorem put5_other {xs : List Value} {j k : Nat} (h : k < j ∨ j + 5 ≤ k) (c0 c1 c2 c3 c4 : Value) : (put5 xs j c0 c1 c2 c3 c4)[k]? = xs[k]? := by
  unfold put5
  rw [List.getElem?_set_ne (by omega), List.getElem?_set_ne (by omega), List.getElem?_set_ne (by omega), List.getElem?_set_ne (by omega), List.getElem?_set_ne (by omega)]
theorem OSt.put {B p L N : Nat} {w wr : World} {g c : Nat} {kv : Value} {l : List V} {ks : List (List UInt8)} {xs : List Value} (h : OSt B p L N w wr (.slice (some ⟨g, 0, none⟩) l.length c) kv l ks xs) (j : Nat) (hj : j < l.length) (x : V) {c0 c1 c2 c3 c4 : Value} (hx : VIs w L N x [c0, c1, c2, c3, c4]) :
    OSt B p L N w (set5 wr g (j * 5) c0 c1 c2 c3 c4) (.slice (some ⟨g, 0, none⟩) l.length c) kv (l.set j x) ks (put5 xs (j * 5) c0 c1 c2 c3 c4) := by
  have hone := five_oneR hx
  have hgp : g ≠ p := fun e => h.far (by rw [e]; rfl)
  have hgB : B ≤ g := (h.rowL.lt g rfl).1
  have hlen : xs.length = l.length * 5 := h.rowL.1
  have hr : (set5 wr g (j * 5) c0 c1 c2 c3 c4).ownsRow B 25 5 (.slice (some ⟨g, 0, none⟩) l.length c) l.length (put5 xs (j * 5) c0 c1 c2 c3 c4) := by
    have r0 := (h.rowL.stored (j * 5) c0).1
    have r1 := (r0.stored (j * 5 + 1) c1).1
    have r2 := (r1.stored (j * 5 + 2) c2).1
    have r3 := (r2.stored (j * 5 + 3) c3).1
    exact (r3.stored (j * 5 + 4) c4).1
  refine ⟨(set5_there (Ne.symm hgp)).trans h.var, by rw [List.length_set]; exact hr, own_kept h.rowK fun g' hg' => set5_there (fun e => ?_), h.far, fun i hi => ?_, h.low.trans (set5_below hgB)⟩
  · exact own_apart h.rowL h.rowK (by decide) g rfl (by rw [← e]; exact hg')
  · rw [List.length_set] at hi
    by_cases hij : i = j
    · subst hij
      obtain ⟨e0, e1, e2, e3, e4⟩ := put5_at (xs := xs) (j := i * 5) (by omega) c0 c1 c2 c3 c4
      exact ⟨c0, c1, c2, c3, c4, e0, e1, e2, e3, e4, by rw [List.getElem_set_self]; exact hx⟩
    · obtain ⟨d0, d1, d2, d3, d4, e0, e1, e2, e3, e4, hv⟩ := h.elem i hi
      have ho : ∀ k, k < 5 → (put5 xs (j * 5) c0 c1 c2 c3 c4)[i * 5 + k]? = xs[i * 5 + k]? := fun k hk => put5_other (by omega) c0 c1 c2 c3 c4
      exact ⟨d0, d1, d2, d3, d4, (ho 0 (by decide)).trans e0, (ho 1 (by decide)).trans e1, (ho 2 (by decide)).trans e2, (ho 3 (by decide)).trans e3, (ho 4 (by decide)).trans e4, by rw [List.getElem_set_ne (Ne.symm hij)]; exact hv⟩
end Go.Proofs.YtobicmpgfiddhaaDoor
namespace Go.Proofs.YtobicmpgfiddhaaDoor

/-- where a key stands first; their number: nowhere -/
def keyAt (key : List UInt8) : List (List UInt8) → Nat
  | [] => 0
  | k :: r => if k = key then 0 else keyAt key r + 1
theorem keyAt_le (key : List UInt8) (ks : List (List UInt8)) : keyAt key ks ≤ ks.length := by
  induction ks with
  | nil => exact Nat.le_refl _
  | cons k r ih => unfold keyAt; split <;> simp; omega
theorem keyAt_hit (key : List UInt8) : ∀ (ks : List (List UInt8)) (h : keyAt key ks < ks.length), ks[keyAt key ks] = key
  | [], h => absurd h (Nat.not_lt_zero _)
  | k :: r, h => by
    by_cases hk : k = key
    · have e : keyAt key (k :: r) = 0 := by unfold keyAt; rw [if_pos hk]
      simp only [e]; exact hk
    · have e : keyAt key (k :: r) = keyAt key r + 1 := by
        conv => lhs; unfold keyAt
        rw [if_neg hk]
      simp only [e] at h ⊢
      exact keyAt_hit key r (by simpa using h)
theorem keyAt_ahead (key : List UInt8) : ∀ (ks : List (List UInt8)) (j : Nat) (hj : j < ks.length), j < keyAt key ks → ks[j] ≠ key
  | [], j, hj, _ => absurd hj (Nat.not_lt_zero _)
  | k :: r, j, hj, h => by
    by_cases hk : k = key
    · have e : keyAt key (k :: r) = 0 := by unfold keyAt; rw [if_pos hk]
      omega
    · have e : keyAt key (k :: r) = keyAt key r + 1 := by
        conv => lhs; unfold keyAt
        rw [if_neg hk]
      cases j with
      | zero => exact hk
      | succ j => exact keyAt_ahead key r j (by simpa using hj) (by omega)
theorem keyAt_is (key : List UInt8) (ks : List (List UInt8)) (j : Nat) (hj : j < ks.length) (h : ks[j] = key) (hne : ∀ i (hi : i < ks.length), i < j → ks[i] ≠ key) : keyAt key ks = j := by
  rcases Nat.lt_trichotomy (keyAt key ks) j with h' | h' | h'
  · exact absurd (keyAt_hit key ks (by omega)) (hne _ (by omega) h')
  · exact h'
  · exact absurd h (keyAt_ahead key ks j hj h')
theorem keyAt_none (key : List UInt8) (ks : List (List UInt8)) (hne : ∀ i (hi : i < ks.length), ks[i] ≠ key) : keyAt key ks = ks.length := by
  have := keyAt_le key ks
  rcases Nat.lt_or_ge (keyAt key ks) ks.length with h | h
  · exact absurd (keyAt_hit key ks h) (hne _ h)
  · omega
/-- what Field answers -/
def fieldV (key : List UInt8) : V → Option V
  | .mk k _ _ l ks => if k = 6 ∧ keyAt key ks < ks.length then l[keyAt key ks]? else none
end Go.Proofs.YtobicmpgfiddhaaDoor
namespace Go.Proofs.YtobicmpgfiddhaaDoor
open Go.RowKit Go.Maps

theorem Tryd.zeroUnit (w : World) : (zeroValue 98).run Tryd.prog w = .ok (.agg #[]) w := by kernel_rfl
theorem run_makeMapN {P : Program} (t k e : TypeId) (kd : IntKind) (n : Int) (ht : P.underlying t = some (.map k e)) (w : World) :
    (Instr.makeMap t (some (.int kd n))).run P w = .ok (.map (some w.heap.size)) (w.alloc (.map #[] 0)) := by
  simp [Instr.makeMap, run_underlying ht]; rfl
theorem Tryd.lawKey : Keyed Tryd.prog 9 := string_keyed Tryd.underlying9
def litsOf (ks : List (List UInt8)) : List Lit := ks.map Lit.string
theorem lits_key (ks : List (List UInt8)) : ∀ x ∈ litsOf ks, WideAt.IsKeyLit x := by
  intro x hx; obtain ⟨_, _, rfl⟩ := List.mem_map.1 hx; trivial
def keysAt (ks : List (List UInt8)) (k : Nat) : DataW Unit := setOf (.agg []) (litsOf (ks.take k))
theorem keysAt_next (ks : List (List UInt8)) (k : Nat) (h : k < ks.length) : keysAt ks (k + 1) = (keysAt ks k).put (.string ks[k]) (.agg []) := by
  unfold keysAt litsOf
  rw [List.take_succ_eq_append_getElem h, List.map_append, List.map_singleton, setOf_snoc]
theorem lit_same (a b : List UInt8) : (Lit.string a).sameKey (.string b) = decide (a = b) := by
  show (a == b) = _
  rw [Bool.eq_iff_iff]; simp
theorem keysAt_has (ks : List (List UInt8)) (k : Nat) (x : List UInt8) : Maps.has (keysAt ks k) (.string x) = decide (x ∈ ks.take k) := by
  unfold keysAt
  rw [has_setOf _ _ _ (lits_key _)]
  unfold litsOf
  rw [List.any_map, Bool.eq_iff_iff, List.any_eq_true, decide_eq_true_eq]
  constructor
  · rintro ⟨y, hy, he⟩
    have : y = x := by simpa [lit_same] using he
    rwa [← this]
  · intro h
    exact ⟨x, h, by simp [lit_same]⟩
/-- how many different keys there are -/
theorem keysAt_size (ks : List (List UInt8)) : ∀ k, k ≤ ks.length → Maps.size (keysAt ks k) ≤ k ∧ (Maps.size (keysAt ks k) = k ↔ (ks.take k).Nodup)
  | 0, _ => by
    have : Maps.size (keysAt ks 0) = 0 := rfl
    rw [this]; simp
  | k + 1, h => by
    have hk : k < ks.length := by omega
    obtain ⟨h1, h2⟩ := keysAt_size ks k (by omega)
    rw [keysAt_next ks k hk, size_put (show Tidy (keysAt ks k) from tidy_setOf _ _ (lits_key _)), keysAt_has, List.take_succ_eq_append_getElem hk, List.nodup_append]
    by_cases hm : ks[k] ∈ ks.take k
    · rw [if_pos (by simpa using hm)]
      refine ⟨by omega, ⟨fun h => by omega, fun h => ?_⟩⟩
      exact absurd rfl (h.2.2 _ hm _ (by simp))
    · rw [if_neg (by simpa using hm)]
      refine ⟨by omega, ⟨fun h => ⟨h2.1 (by omega), by simp, fun a ha b hb e => ?_⟩, fun h => by rw [h2.2 h.1]⟩⟩
      have : b = ks[k] := by simpa using hb
      subst this; subst e
      exact hm ha
theorem keysAt_all (ks : List (List UInt8)) : ((Maps.size (keysAt ks ks.length) : Int) == (ks.length : Int)) = unlikeB ks := by
  obtain ⟨h1, h2⟩ := keysAt_size ks ks.length (Nat.le_refl _)
  rw [List.take_length, ← unlike_nodup] at h2
  rw [Bool.eq_iff_iff, ← h2]
  simp; omega
set_option maxRecDepth 100000 in
set_option maxHeartbeats 1000000 in
theorem unlike_any (A : Option Addr) (c L N : Nat) (ks : List (List UInt8)) (hl : ks.length ≤ 9223372036854775807) (hz : ∀ x ∈ ks, x.length ≤ 9223372036854775807) (w : World) (hN : N ≤ w.heap.size) (hk : ks = [] ∨ ∃ b o, A = some ⟨b, o, none⟩ ∧ KIs w L N ks b o) :
    Calls Tryd.prog 70 #[.slice A ks.length c] w fun e w' => e = .returned (.bool (unlikeB ks)) ∧ Below w.heap.size w w' := by
  have hmm := fun n => @run_makeMapN Tryd.prog 97 9 98 .i64 n Tryd.underlying97
  have hall := keysAt_all ks
  obtain ⟨n, hn⟩ : ∃ n, ks.length = n := ⟨_, rfl⟩
  obtain ⟨R, hR⟩ : ∃ R, unlikeB ks = R := ⟨_, rfl⟩
  rw [hR] at hall ⊢
  rw [hn] at hl hall ⊢
  have HN := Lib.hid hn; have HZ := Lib.hid hz; have HA := Lib.hid hall; have HK := Lib.hid hk; clear hn hz hall hR hk
  go_enter Tryd.func70, Tryd.ntmps70
  go_wp2
  go_loopw [11] (fun i wr => ∃ k : Nat, k ≤ n ∧ i = .int .i64 k ∧ wr.ownsMap Tryd.prog 9 (unitElem (H := Unit)) w.heap.size k (keysAt ks k) ∧ Below w.heap.size w wr) (fun i _ => n - (intOf i).toNat)
  case atStart => exact ⟨0, Nat.zero_le _, rfl, World.ownsMap_made _ _ _ _, (Below.refl _ _).alloc (Nat.le_refl _) _⟩
  case round =>
    obtain ⟨k, hk, rfl, hown, hbw⟩ := hrel
    have hbs := hbw.size
    by_cases hlt : k < n
    · have hkl : k < ks.length := by have := HN.out; omega
      obtain ⟨b, o, rfl, _, hbN, h1⟩ := VIs.key HK.out k hkl
      have h1 := (hbw.cell (p := ⟨b, o + k, none⟩) (by show b < _; omega)).trans h1
      have hsz := HZ.out ks[k] (List.getElem_mem hkl)
      have g3 := keysAt_next ks k hkl
      have G3 := Lib.hid g3; clear g3 HK
      generalize ks[k] = x at *
      have hkey : keyOf Tryd.prog 9 (.string ⟨x.toArray⟩) = some (.string x) := WideMaps.keyOf_string_mk Tryd.underlying9 hsz
      go_wp2_with (at_mapUpdate; refine wpList_mapUpdate_own _ rfl _ _ _ 97 rfl 9 98 Tryd.lawKey Tryd.underlying97 (unitElem (H := Unit)) w.heap.size k _ rfl hown (by unfold maxLen; omega) _ _ _ rfl rfl hkey _ [] unitElem_mk ?_; intro w1 hown1 hgrow1)
      go_roundw
      case rel => exact ⟨k + 1, by omega, by go_num, by rw [G3.out]; exact hown1, hbw.grown hgrow1 (by omega) (fun j hj => by cases hj; exact Nat.le_refl _)⟩
      case measure => simp [intOf]; omega
    · obtain rfl : n = k := by omega
      go_wp2_with (at_len; go_loud (refine wpList_len_own _ rfl _ 97 rfl 9 98 Tryd.underlying97 _ w.heap.size n _ rfl hown ?_))
      go_ret
      exact ⟨ret_bool HA.out, hbw⟩
end Go.Proofs.YtobicmpgfiddhaaDoor
namespace Go.Proofs.YtobicmpgfiddhaaDoor
open Go.RowKit
set_option linter.unusedVariables false
set_option linter.unusedSimpArgs false

/-- what a value must be by itself, as the code reckons it -/
def headC (k n : Int) (t : List UInt8) (ll : Nat) (ks : List (List UInt8)) : Bool :=
  decide (1 ≤ k ∧ k ≤ 6) && decide ((if k = 3 then -9007199254740992 else 0) ≤ n) && decide (n ≤ (if k = 2 then 1 else if k = 3 then 9007199254740992 else 0)) && (t.isEmpty || decide (k = 4)) &&
  decide (ll ≤ (if k = 5 ∨ k = 6 then 64 else 0)) && decide (ks.length = (if k = 6 then ll else 0)) && unlikeB ks
theorem headC_eq (k n : Int) (t : List UInt8) (ll : Nat) (ks : List (List UInt8)) : headB k n t ll ks = headC k n t ll ks := by
  by_cases hk : 1 ≤ k ∧ k ≤ 6
  · have hk' : k = 1 ∨ k = 2 ∨ k = 3 ∨ k = 4 ∨ k = 5 ∨ k = 6 := by omega
    unfold headB headC
    rw [Bool.eq_iff_iff]
    generalize unlikeB ks = U
    simp only [Bool.and_eq_true, Bool.or_eq_true, decide_eq_true_eq, List.isEmpty_iff]
    cases ks with
    | nil =>
      cases t with
      | nil => rcases hk' with rfl | rfl | rfl | rfl | rfl | rfl <;> simp <;> omega
      | cons x r => rcases hk' with rfl | rfl | rfl | rfl | rfl | rfl <;> simp <;> omega
    | cons y s =>
      cases t with
      | nil => rcases hk' with rfl | rfl | rfl | rfl | rfl | rfl <;> simp <;> omega
      | cons x r => rcases hk' with rfl | rfl | rfl | rfl | rfl | rfl <;> simp <;> omega
  · unfold headB headC
    rw [decide_eq_false hk]; rfl
theorem head_t1 (n : Int) (t : List UInt8) (ll : Nat) (ks : List (List UInt8)) {k : Int} (h : ¬ (1 ≤ k ∧ k ≤ 6)) : headC k n t ll ks = false := by unfold headC; rw [decide_eq_false h]; rfl
set_option maxRecDepth 100000 in
set_option maxHeartbeats 4000000 in
theorem fieldsFit_any (v : V) (w : World) (L N b o : Nat) (cs : List Value) (h5 : Five w b o cs) (hbN : b < N) (hv : VIs w L N v cs) (hN : N ≤ w.heap.size) :
    Calls Tryd.prog 57 #[.pointer (some ⟨b, o, none⟩)] w fun e w' => e = .returned (.bool (headB v.kind v.num v.text v.list.length v.keys)) ∧ Below w.heap.size w w' := by
  obtain ⟨k, n, t, l, ks⟩ := v
  rw [headC_eq]
  show Calls Tryd.prog 57 #[.pointer (some ⟨b, o, none⟩)] w fun e w' => e = .returned (.bool (headC k n t l.length ks)) ∧ Below w.heap.size w w'
  obtain ⟨⟨ml, mk, mt, mx⟩, A, c, A', c', rfl, h1, h2⟩ := hv.out
  obtain ⟨c0, c1, c2, c3, c4, e, m0, m1, m2, m3, m4⟩ := h5
  injection e with e0 e; injection e with e1 e; injection e with e2 e; injection e with e3 e; injection e with e4 e
  subst e0; subst e1; subst e2; subst e3; subst e4
  have hun := fun wq (hb : Below w.heap.size w wq) => unlike_any A' c' L N ks mk mx wq (Nat.le_trans hN hb.size) (by
    rcases h1 with h | ⟨p, q, e, h⟩
    · exact .inl h
    · exact .inr ⟨p, q, e, h.below (hb.mono hN)⟩)
  generalize l.length = ll at *
  obtain ⟨U, hU⟩ : ∃ U, unlikeB ks = U := ⟨_, rfl⟩
  have hH : headC k n t ll ks = (decide (1 ≤ k ∧ k ≤ 6) && decide ((if k = 3 then -9007199254740992 else 0) ≤ n) && decide (n ≤ (if k = 2 then 1 else if k = 3 then 9007199254740992 else 0)) && (t.isEmpty || decide (k = 4)) && decide (ll ≤ (if k = 5 ∨ k = 6 then 64 else 0)) && decide (ks.length = (if k = 6 then ll else 0)) && U) := by rw [← hU]; rfl
  generalize headC k n t ll ks = H at *
  rw [hU] at hun
  generalize ks.length = lk at *
  have HUN := Lib.hid (fun wq hb => hun wq hb); have HH := Lib.hid hH
  clear hun hH h1 h2 hv hU mx
  have hbw := Below.refl w.heap.size w
  have HBW := Lib.hid hbw; clear hbw
  by_cases hk : 1 ≤ k ∧ k ≤ 6
  · have hk' : k = 1 ∨ k = 2 ∨ k = 3 ∨ k = 4 ∨ k = 5 ∨ k = 6 := by omega
    clear hk
    rcases hk' with rfl | rfl | rfl | rfl | rfl | rfl
    · -- kind 1
      by_cases q1 : (0 : Int) ≤ n
      · have d1 : decide ((0 : Int) ≤ n) = true := decide_eq_true q1
        by_cases q2 : n ≤ (0 : Int)
        · have d2 : decide (n ≤ (0 : Int)) = true := decide_eq_true q2
          obtain rfl : n = 0 := by omega
          clear d1 d2 q1 q2
          cases t with
          | nil =>
            cases ll with
            | succ ll =>
              have d4 : decide (((ll + 1 : Nat) : Int) ≤ 0) = false := decide_eq_false (by omega)
              go_enter Tryd.func57, Tryd.ntmps57
              go_wp2
              go_ret
              exact ⟨ret_bool (HH.out.trans (by clear HH; cases U <;> simp <;> omega)).symm, HBW.out⟩
            | zero =>
              cases lk with
              | succ lk =>
                have d5 : (((lk + 1 : Nat) : Int) == 0) = false := by simp; omega
                go_enter Tryd.func57, Tryd.ntmps57
                go_wp2
                go_ret
                exact ⟨ret_bool (HH.out.trans (by clear HH; cases U <;> simp <;> omega)).symm, HBW.out⟩
              | zero =>
                go_enter Tryd.func57, Tryd.ntmps57
                go_wp2_with (go_at_call 70; with_reducible refine (HUN.out _ (HBW.out)).mono ?_; rintro e1 w1 ⟨rfl, hb1⟩)
                go_ret
                exact ⟨ret_bool (HH.out.trans (by clear HH; cases U <;> simp <;> omega)).symm, hb1⟩
          | cons x r =>
            have d3 : ((x :: r) == ([] : List UInt8)) = false := rfl
            go_enter Tryd.func57, Tryd.ntmps57
            go_wp2
            go_ret
            exact ⟨ret_bool (HH.out.trans (by clear HH; cases U <;> simp <;> omega)).symm, HBW.out⟩
        · have d2 : decide (n ≤ (0 : Int)) = false := decide_eq_false q2
          go_enter Tryd.func57, Tryd.ntmps57
          go_wp2
          go_ret
          exact ⟨ret_bool (HH.out.trans (by clear HH; cases U <;> simp <;> omega)).symm, HBW.out⟩
      · have d1 : decide ((0 : Int) ≤ n) = false := decide_eq_false q1
        go_enter Tryd.func57, Tryd.ntmps57
        go_wp2
        go_ret
        exact ⟨ret_bool (HH.out.trans (by clear HH; cases U <;> simp <;> omega)).symm, HBW.out⟩
    · -- kind 2
      by_cases q1 : (0 : Int) ≤ n
      · have d1 : decide ((0 : Int) ≤ n) = true := decide_eq_true q1
        by_cases q2 : n ≤ (1 : Int)
        · have d2 : decide (n ≤ (1 : Int)) = true := decide_eq_true q2
          cases t with
          | nil =>
            cases ll with
            | succ ll =>
              have d4 : decide (((ll + 1 : Nat) : Int) ≤ 0) = false := decide_eq_false (by omega)
              go_enter Tryd.func57, Tryd.ntmps57
              go_wp2
              go_ret
              exact ⟨ret_bool (HH.out.trans (by clear HH; cases U <;> simp <;> omega)).symm, HBW.out⟩
            | zero =>
              cases lk with
              | succ lk =>
                have d5 : (((lk + 1 : Nat) : Int) == 0) = false := by simp; omega
                go_enter Tryd.func57, Tryd.ntmps57
                go_wp2
                go_ret
                exact ⟨ret_bool (HH.out.trans (by clear HH; cases U <;> simp <;> omega)).symm, HBW.out⟩
              | zero =>
                go_enter Tryd.func57, Tryd.ntmps57
                go_wp2_with (go_at_call 70; with_reducible refine (HUN.out _ (HBW.out)).mono ?_; rintro e1 w1 ⟨rfl, hb1⟩)
                go_ret
                exact ⟨ret_bool (HH.out.trans (by clear HH; cases U <;> simp <;> omega)).symm, hb1⟩
          | cons x r =>
            have d3 : ((x :: r) == ([] : List UInt8)) = false := rfl
            go_enter Tryd.func57, Tryd.ntmps57
            go_wp2
            go_ret
            exact ⟨ret_bool (HH.out.trans (by clear HH; cases U <;> simp <;> omega)).symm, HBW.out⟩
        · have d2 : decide (n ≤ (1 : Int)) = false := decide_eq_false q2
          go_enter Tryd.func57, Tryd.ntmps57
          go_wp2
          go_ret
          exact ⟨ret_bool (HH.out.trans (by clear HH; cases U <;> simp <;> omega)).symm, HBW.out⟩
      · have d1 : decide ((0 : Int) ≤ n) = false := decide_eq_false q1
        go_enter Tryd.func57, Tryd.ntmps57
        go_wp2
        go_ret
        exact ⟨ret_bool (HH.out.trans (by clear HH; cases U <;> simp <;> omega)).symm, HBW.out⟩
    · -- kind 3
      by_cases q1 : (-9007199254740992 : Int) ≤ n
      · have d1 : decide ((-9007199254740992 : Int) ≤ n) = true := decide_eq_true q1
        by_cases q2 : n ≤ (9007199254740992 : Int)
        · have d2 : decide (n ≤ (9007199254740992 : Int)) = true := decide_eq_true q2
          cases t with
          | nil =>
            cases ll with
            | succ ll =>
              have d4 : decide (((ll + 1 : Nat) : Int) ≤ 0) = false := decide_eq_false (by omega)
              go_enter Tryd.func57, Tryd.ntmps57
              go_wp2
              go_ret
              exact ⟨ret_bool (HH.out.trans (by clear HH; cases U <;> simp <;> omega)).symm, HBW.out⟩
            | zero =>
              cases lk with
              | succ lk =>
                have d5 : (((lk + 1 : Nat) : Int) == 0) = false := by simp; omega
                go_enter Tryd.func57, Tryd.ntmps57
                go_wp2
                go_ret
                exact ⟨ret_bool (HH.out.trans (by clear HH; cases U <;> simp <;> omega)).symm, HBW.out⟩
              | zero =>
                go_enter Tryd.func57, Tryd.ntmps57
                go_wp2_with (go_at_call 70; with_reducible refine (HUN.out _ (HBW.out)).mono ?_; rintro e1 w1 ⟨rfl, hb1⟩)
                go_ret
                exact ⟨ret_bool (HH.out.trans (by clear HH; cases U <;> simp <;> omega)).symm, hb1⟩
          | cons x r =>
            have d3 : ((x :: r) == ([] : List UInt8)) = false := rfl
            go_enter Tryd.func57, Tryd.ntmps57
            go_wp2
            go_ret
            exact ⟨ret_bool (HH.out.trans (by clear HH; cases U <;> simp <;> omega)).symm, HBW.out⟩
        · have d2 : decide (n ≤ (9007199254740992 : Int)) = false := decide_eq_false q2
          go_enter Tryd.func57, Tryd.ntmps57
          go_wp2
          go_ret
          exact ⟨ret_bool (HH.out.trans (by clear HH; cases U <;> simp <;> omega)).symm, HBW.out⟩
      · have d1 : decide ((-9007199254740992 : Int) ≤ n) = false := decide_eq_false q1
        go_enter Tryd.func57, Tryd.ntmps57
        go_wp2
        go_ret
        exact ⟨ret_bool (HH.out.trans (by clear HH; cases U <;> simp <;> omega)).symm, HBW.out⟩
    · -- kind 4
      by_cases q1 : (0 : Int) ≤ n
      · have d1 : decide ((0 : Int) ≤ n) = true := decide_eq_true q1
        by_cases q2 : n ≤ (0 : Int)
        · have d2 : decide (n ≤ (0 : Int)) = true := decide_eq_true q2
          obtain rfl : n = 0 := by omega
          clear d1 d2 q1 q2
          cases t with
          | nil =>
            cases ll with
            | succ ll =>
              have d4 : decide (((ll + 1 : Nat) : Int) ≤ 0) = false := decide_eq_false (by omega)
              go_enter Tryd.func57, Tryd.ntmps57
              go_wp2
              go_ret
              exact ⟨ret_bool (HH.out.trans (by clear HH; cases U <;> simp <;> omega)).symm, HBW.out⟩
            | zero =>
              cases lk with
              | succ lk =>
                have d5 : (((lk + 1 : Nat) : Int) == 0) = false := by simp; omega
                go_enter Tryd.func57, Tryd.ntmps57
                go_wp2
                go_ret
                exact ⟨ret_bool (HH.out.trans (by clear HH; cases U <;> simp <;> omega)).symm, HBW.out⟩
              | zero =>
                go_enter Tryd.func57, Tryd.ntmps57
                go_wp2_with (go_at_call 70; with_reducible refine (HUN.out _ (HBW.out)).mono ?_; rintro e1 w1 ⟨rfl, hb1⟩)
                go_ret
                exact ⟨ret_bool (HH.out.trans (by clear HH; cases U <;> simp <;> omega)).symm, hb1⟩
          | cons x r =>
            have d3 : ((x :: r) == ([] : List UInt8)) = false := rfl
            cases ll with
            | succ ll =>
              have d4 : decide (((ll + 1 : Nat) : Int) ≤ 0) = false := decide_eq_false (by omega)
              go_enter Tryd.func57, Tryd.ntmps57
              go_wp2
              go_ret
              exact ⟨ret_bool (HH.out.trans (by clear HH; cases U <;> simp <;> omega)).symm, HBW.out⟩
            | zero =>
              cases lk with
              | succ lk =>
                have d5 : (((lk + 1 : Nat) : Int) == 0) = false := by simp; omega
                go_enter Tryd.func57, Tryd.ntmps57
                go_wp2
                go_ret
                exact ⟨ret_bool (HH.out.trans (by clear HH; cases U <;> simp <;> omega)).symm, HBW.out⟩
              | zero =>
                go_enter Tryd.func57, Tryd.ntmps57
                go_wp2_with (go_at_call 70; with_reducible refine (HUN.out _ (HBW.out)).mono ?_; rintro e1 w1 ⟨rfl, hb1⟩)
                go_ret
                exact ⟨ret_bool (HH.out.trans (by clear HH; cases U <;> simp <;> omega)).symm, hb1⟩
        · have d2 : decide (n ≤ (0 : Int)) = false := decide_eq_false q2
          go_enter Tryd.func57, Tryd.ntmps57
          go_wp2
          go_ret
          exact ⟨ret_bool (HH.out.trans (by clear HH; cases U <;> simp <;> omega)).symm, HBW.out⟩
      · have d1 : decide ((0 : Int) ≤ n) = false := decide_eq_false q1
        go_enter Tryd.func57, Tryd.ntmps57
        go_wp2
        go_ret
        exact ⟨ret_bool (HH.out.trans (by clear HH; cases U <;> simp <;> omega)).symm, HBW.out⟩
    · -- kind 5
      by_cases q1 : (0 : Int) ≤ n
      · have d1 : decide ((0 : Int) ≤ n) = true := decide_eq_true q1
        by_cases q2 : n ≤ (0 : Int)
        · have d2 : decide (n ≤ (0 : Int)) = true := decide_eq_true q2
          obtain rfl : n = 0 := by omega
          clear d1 d2 q1 q2
          cases t with
          | nil =>
            by_cases q4 : ll ≤ 64
            rotate_left
            · have d4 : decide ((ll : Int) ≤ 64) = false := decide_eq_false (by omega)
              go_enter Tryd.func57, Tryd.ntmps57
              go_wp2
              go_ret
              exact ⟨ret_bool (HH.out.trans (by clear HH; cases U <;> simp <;> omega)).symm, HBW.out⟩
            · have d4 : decide ((ll : Int) ≤ 64) = true := decide_eq_true (by omega)
              cases lk with
              | succ lk =>
                have d5 : (((lk + 1 : Nat) : Int) == 0) = false := by simp; omega
                go_enter Tryd.func57, Tryd.ntmps57
                go_wp2
                go_ret
                exact ⟨ret_bool (HH.out.trans (by clear HH; cases U <;> simp <;> omega)).symm, HBW.out⟩
              | zero =>
                go_enter Tryd.func57, Tryd.ntmps57
                go_wp2_with (go_at_call 70; with_reducible refine (HUN.out _ (HBW.out)).mono ?_; rintro e1 w1 ⟨rfl, hb1⟩)
                go_ret
                exact ⟨ret_bool (HH.out.trans (by clear HH; cases U <;> simp <;> omega)).symm, hb1⟩
          | cons x r =>
            have d3 : ((x :: r) == ([] : List UInt8)) = false := rfl
            go_enter Tryd.func57, Tryd.ntmps57
            go_wp2
            go_ret
            exact ⟨ret_bool (HH.out.trans (by clear HH; cases U <;> simp <;> omega)).symm, HBW.out⟩
        · have d2 : decide (n ≤ (0 : Int)) = false := decide_eq_false q2
          go_enter Tryd.func57, Tryd.ntmps57
          go_wp2
          go_ret
          exact ⟨ret_bool (HH.out.trans (by clear HH; cases U <;> simp <;> omega)).symm, HBW.out⟩
      · have d1 : decide ((0 : Int) ≤ n) = false := decide_eq_false q1
        go_enter Tryd.func57, Tryd.ntmps57
        go_wp2
        go_ret
        exact ⟨ret_bool (HH.out.trans (by clear HH; cases U <;> simp <;> omega)).symm, HBW.out⟩
    · -- kind 6
      by_cases q1 : (0 : Int) ≤ n
      · have d1 : decide ((0 : Int) ≤ n) = true := decide_eq_true q1
        by_cases q2 : n ≤ (0 : Int)
        · have d2 : decide (n ≤ (0 : Int)) = true := decide_eq_true q2
          obtain rfl : n = 0 := by omega
          clear d1 d2 q1 q2
          cases t with
          | nil =>
            by_cases q4 : ll ≤ 64
            rotate_left
            · have d4 : decide ((ll : Int) ≤ 64) = false := decide_eq_false (by omega)
              go_enter Tryd.func57, Tryd.ntmps57
              go_wp2_with fail
              go_region
              all_goals
                go_wp2
                go_ret
                exact ⟨ret_bool (HH.out.trans (by clear HH; cases U <;> simp <;> omega)).symm, HBW.out.drew⟩
            · have d4 : decide ((ll : Int) ≤ 64) = true := decide_eq_true (by omega)
              by_cases q5 : lk = ll
              · subst q5
                go_enter Tryd.func57, Tryd.ntmps57
                go_wp2_with fail
                go_region
                all_goals
                  go_wp2_with (go_at_call 70; with_reducible refine (HUN.out _ (HBW.out.drew)).mono ?_; rintro e1 w1 ⟨rfl, hb1⟩)
                  go_ret
                  exact ⟨ret_bool (HH.out.trans (by clear HH; cases U <;> simp <;> omega)).symm, below_drew2 _ _ hb1⟩
              · have d5 : ((lk : Int) == (ll : Int)) = false := by simp; omega
                go_enter Tryd.func57, Tryd.ntmps57
                go_wp2_with fail
                go_region
                all_goals
                  go_wp2
                  go_ret
                  exact ⟨ret_bool (HH.out.trans (by clear HH; cases U <;> simp <;> omega)).symm, HBW.out.drew⟩
          | cons x r =>
            have d3 : ((x :: r) == ([] : List UInt8)) = false := rfl
            go_enter Tryd.func57, Tryd.ntmps57
            go_wp2_with fail
            go_region
            all_goals
              go_wp2
              go_ret
              exact ⟨ret_bool (HH.out.trans (by clear HH; cases U <;> simp <;> omega)).symm, HBW.out.drew⟩
        · have d2 : decide (n ≤ (0 : Int)) = false := decide_eq_false q2
          go_enter Tryd.func57, Tryd.ntmps57
          go_wp2_with fail
          go_region
          all_goals
            go_wp2
            go_ret
            exact ⟨ret_bool (HH.out.trans (by clear HH; cases U <;> simp <;> omega)).symm, HBW.out.drew⟩
      · have d1 : decide ((0 : Int) ≤ n) = false := decide_eq_false q1
        go_enter Tryd.func57, Tryd.ntmps57
        go_wp2_with fail
        go_region
        all_goals
          go_wp2
          go_ret
          exact ⟨ret_bool (HH.out.trans (by clear HH; cases U <;> simp <;> omega)).symm, HBW.out.drew⟩
  · have d1 : (k == 1) = false := by simp; omega
    have d2 : (k == 2) = false := by simp; omega
    have d3 : (k == 3) = false := by simp; omega
    have d4 : (k == 4) = false := by simp; omega
    have d5 : (k == 5) = false := by simp; omega
    have d6 : (k == 6) = false := by simp; omega
    have hK := Lib.hid hk; clear hk
    go_enter Tryd.func57, Tryd.ntmps57
    go_wp2
    go_ret
    exact ⟨ret_bool (HH.out.trans (by rw [decide_eq_false hK.out]; rfl)).symm, HBW.out⟩
end Go.Proofs.YtobicmpgfiddhaaDoor
namespace Go.Proofs.YtobicmpgfiddhaaDoor
open Go.RowKit

theorem depth_of (k n : Int) (t : List UInt8) (l : List V) (ks : List (List UInt8)) (lv : Nat) (h : ∀ i (h : i < l.length), l[i].depth ≤ lv) : decide ((V.mk k n t l ks).depth ≤ lv + 1) = true := by
  rw [depth_mk]; have := (depths_iff l lv).2 h; simp; omega
theorem depth_not (k n : Int) (t : List UInt8) (l : List V) (ks : List (List UInt8)) (lv i : Nat) (hi : i < l.length) (h : ¬ l[i].depth ≤ lv) : decide ((V.mk k n t l ks).depth ≤ lv + 1) = false := by
  rw [depth_mk]
  have : ¬ V.depths l ≤ lv := fun h' => h ((depths_iff l lv).1 h' i hi)
  simp; omega
set_option maxRecDepth 100000 in
set_option maxHeartbeats 1000000 in
theorem within_at (m : Nat) : ∀ (v : V) (lv : Nat) (w : World) (L N b o : Nat) (cs : List Value), v.size ≤ m → lv ≤ 1000000 → Five w b o cs → b < N → VIs w L N v cs → N ≤ w.heap.size →
    Calls Tryd.prog 37 #[.pointer (some ⟨b, o, none⟩), .int .i64 lv] w fun e w' => e = .returned (.bool (decide (v.depth ≤ lv))) ∧ Below w.heap.size w w' := by
  induction m with
  | zero => intro v lv w L N b o cs hm; exact absurd (size_pos v) (by omega)
  | succ m ih =>
  intro v lv w L N b o cs hm hlv h5 hbN hv hN
  obtain ⟨k, n, t, l, ks⟩ := v
  obtain ⟨⟨ml, mk, -, -⟩, A, c, A', c', rfl, h1, h2⟩ := hv.out
  obtain ⟨c0, c1, c2, c3, c4, e, m0, m1, m2, m3, m4⟩ := h5
  injection e with e0 e; injection e with e1 e; injection e with e2 e; injection e with e3 e; injection e with e4 e
  subst e0; subst e1; subst e2; subst e3; subst e4
  cases lv with
  | zero =>
    have hz : decide ((V.mk k n t l ks).depth ≤ 0) = false := by rw [depth_mk]; simp
    rw [hz]
    go_enter Tryd.func37, Tryd.ntmps37
    go_wp2
    go_ret
    exact ⟨rfl, Below.refl _ _⟩
  | succ lv =>
    have q1 : (((lv + 1 : Nat) : Int) == 0) = false := by simp; omega
    have q2 : ((lv + 1 : Nat) : Int) - 1 = (lv : Int) := by omega
    have q3 : IntKind.i64.wrap (lv : Int) = (lv : Int) := by rw [IntKind.wrap_i64]; omega
    obtain ⟨x, hx⟩ : ∃ x : Int, ((lv + 1 : Nat) : Int) = x := ⟨_, rfl⟩
    have DO := Lib.hid (depth_of k n t l ks lv); have DN := Lib.hid (depth_not k n t l ks lv)
    obtain ⟨R, hR⟩ : ∃ R, decide ((V.mk k n t l ks).depth ≤ lv + 1) = R := ⟨_, rfl⟩
    rw [hR] at DO DN ⊢
    rw [hx] at q1 q2 ⊢
    obtain ⟨nl, hnl⟩ : ∃ nl, l.length = nl := ⟨_, rfl⟩
    rw [hnl] at ml m3
    have NL := Lib.hid hnl; have HM := Lib.hid hm; have H2 := Lib.hid h2
    clear hnl hx hR hv h1 h2 hm
    go_enter Tryd.func37, Tryd.ntmps37
    go_wp2_with fail
    go_loopw [13] (fun i wr => ∃ j : Nat, j ≤ nl ∧ i = .int .i64 j ∧ (∀ i (h : i < l.length), i < j → l[i].depth ≤ lv) ∧ Below w.heap.size w wr) (fun i _ => nl - (intOf i).toNat)
    case atStart => exact ⟨0, Nat.zero_le _, rfl, fun _ _ h => absurd h (Nat.not_lt_zero _), Below.refl _ _⟩
    case round =>
      obtain ⟨j, hj, rfl, hd, hb⟩ := hrel
      have HD := Lib.hid hd; have hs := hb.size; clear hd
      have m3' := (hb.cell (p := ⟨b, o + 3, none⟩) (by show b < _; omega)).trans m3
      by_cases hlt : j < nl
      · have hjl : j < l.length := by have := NL.out; omega
        obtain ⟨p, q, rfl, _, hpN, xs, hx5, hxv⟩ := VIs.item H2.out j hjl
        have hbN' := hb.mono hN
        have hc := fun wq (hwq : Below w.heap.size w wq) => ih l[j] lv wq L N p (q + j * 5) xs (by have := HM.out; have := size_get (k := k) (n := n) (t := t) (ks := ks) j hjl; omega) (by omega) (hx5.keep hpN (fun r hr => (hwq.mono hN).cell hr)) hpN (hxv.below (hwq.mono hN)) (Nat.le_trans hN hwq.size)
        have HC := Lib.hid hc; have HBW := Lib.hid hb
        have T2 := Lib.hid (DN.out j hjl)
        have T1 := Lib.hid (fun (h : l[j].depth ≤ lv) => show ∀ i (h : i < l.length), i < j + 1 → l[i].depth ≤ lv from fun i hi hij => by
          rcases Nat.lt_succ_iff_lt_or_eq.1 hij with h' | h'
          · exact HD.out i hi h'
          · subst h'; exact h)
        clear hc hx5 hxv hbN'
        generalize l[j] = x at *
        by_cases hxd : x.depth ≤ lv
        · have T3 := Lib.hid (T1.out hxd)
          have qd : decide (x.depth ≤ lv) = true := by simpa using hxd
          rw [qd] at HC
          clear T1 T2 hxd
          go_wp2_with (go_at_call 37; with_reducible refine (HC.out _ HBW.out).mono ?_; rintro e1 w1 ⟨rfl, hb1⟩)
          go_roundw
          case rel => exact ⟨j + 1, by omega, by go_num, T3.out, HBW.out.trans (hb1.mono hs)⟩
          case measure => simp [intOf]; omega
        · have T3 := Lib.hid (T2.out hxd)
          have qd : decide (x.depth ≤ lv) = false := by simpa using hxd
          rw [qd] at HC
          clear T1 T2 hxd
          go_wp2_with (go_at_call 37; with_reducible refine (HC.out _ HBW.out).mono ?_; rintro e1 w1 ⟨rfl, hb1⟩)
          go_ret
          exact ⟨ret_bool T3.out.symm, HBW.out.trans (hb1.mono hs)⟩
      · obtain rfl : nl = j := by omega
        have T3 := Lib.hid (DO.out fun i hi => HD.out i hi (by have := NL.out; omega))
        clear DO DN HD NL
        go_wp2
        go_ret
        exact ⟨ret_bool T3.out.symm, hb⟩
end Go.Proofs.YtobicmpgfiddhaaDoor
namespace Go.Proofs.YtobicmpgfiddhaaDoor
open Go.RowKit

set_option maxRecDepth 100000 in
set_option maxHeartbeats 1000000 in
theorem fits_at (m : Nat) : ∀ (v : V) (w : World) (L N b o : Nat) (cs : List Value), v.size ≤ m → Five w b o cs → b < N → VIs w L N v cs → N ≤ w.heap.size →
    Calls Tryd.prog 38 #[.pointer (some ⟨b, o, none⟩)] w fun e w' => e = .returned (.bool v.good) ∧ Below w.heap.size w w' := by
  induction m with
  | zero => intro v w L N b o cs hm; exact absurd (size_pos v) (by omega)
  | succ m ih =>
  intro v w L N b o cs hm h5 hbN hv hN
  have hff := fieldsFit_any v w L N b o cs h5 hbN hv hN
  obtain ⟨k, n, t, l, ks⟩ := v
  rw [good_mk]
  change Calls Tryd.prog _ _ _ (fun e w' => e = .returned (.bool (headB k n t l.length ks)) ∧ _) at hff
  obtain ⟨⟨ml, mk, -, -⟩, A, c, A', c', rfl, h1, h2⟩ := hv.out
  obtain ⟨c0, c1, c2, c3, c4, e, m0, m1, m2, m3, m4⟩ := h5
  injection e with e0 e; injection e with e1 e; injection e with e2 e; injection e with e3 e; injection e with e4 e
  subst e0; subst e1; subst e2; subst e3; subst e4
  have HF := Lib.hid hff
  cases hh : headB k n t l.length ks with
  | false =>
    rw [hh] at HF
    clear hff
    go_enter Tryd.func38, Tryd.ntmps38
    go_wp2_with (go_at_call 57; with_reducible refine (HF.out).mono ?_; rintro e1 w1 ⟨rfl, hb1⟩)
    go_ret
    exact ⟨rfl, hb1⟩
  | true =>
    rw [hh] at HF
    obtain ⟨R, hR⟩ : ∃ R, (true && V.goods l) = R := ⟨_, rfl⟩
    rw [hR]
    have DO := Lib.hid (fun (h : ∀ i (h : i < l.length), l[i].good = true) => show R = true by rw [← hR, (goods_iff l).2 h]; rfl)
    have DN := Lib.hid (fun (i : Nat) (hi : i < l.length) (h : l[i].good = false) => show R = false by
      rw [← hR]
      cases hg : V.goods l with
      | false => rfl
      | true => rw [(goods_iff l).1 hg i hi] at h; cases h)
    obtain ⟨nl, hnl⟩ : ∃ nl, l.length = nl := ⟨_, rfl⟩
    rw [hnl] at ml m3
    have NL := Lib.hid hnl; have HM := Lib.hid hm; have H2 := Lib.hid h2
    clear hnl hR hv h1 h2 hm hff hh
    go_enter Tryd.func38, Tryd.ntmps38
    go_wp2_with (go_at_call 57; with_reducible refine (HF.out).mono ?_; rintro e1 w1 ⟨rfl, hb1⟩; have m3x := (hb1.cell (p := ⟨b, o + 3, none⟩) (by show b < _; omega)).trans m3)
    go_loopw [12] (fun i wr => ∃ j : Nat, j ≤ nl ∧ i = .int .i64 j ∧ (∀ i (h : i < l.length), i < j → l[i].good = true) ∧ Below w.heap.size w wr) (fun i _ => nl - (intOf i).toNat)
    case atStart => exact ⟨0, Nat.zero_le _, rfl, fun _ _ h => absurd h (Nat.not_lt_zero _), hb1⟩
    case round =>
      obtain ⟨j, hj, rfl, hd, hb⟩ := hrel
      have HD := Lib.hid hd; have hs := hb.size; clear hd
      have m3' := (hb.cell (p := ⟨b, o + 3, none⟩) (by show b < _; omega)).trans m3
      by_cases hlt : j < nl
      · have hjl : j < l.length := by have := NL.out; omega
        obtain ⟨p, q, rfl, _, hpN, xs, hx5, hxv⟩ := VIs.item H2.out j hjl
        have hc := fun wq (hwq : Below w.heap.size w wq) => ih l[j] wq L N p (q + j * 5) xs (by have := HM.out; have := size_get (k := k) (n := n) (t := t) (ks := ks) j hjl; omega) (hx5.keep hpN (fun r hr => (hwq.mono hN).cell hr)) hpN (hxv.below (hwq.mono hN)) (Nat.le_trans hN hwq.size)
        have HC := Lib.hid hc; have HBW := Lib.hid hb
        have T2 := Lib.hid (DN.out j hjl)
        have T1 := Lib.hid (fun (h : l[j].good = true) => show ∀ i (h : i < l.length), i < j + 1 → l[i].good = true from fun i hi hij => by
          rcases Nat.lt_succ_iff_lt_or_eq.1 hij with h' | h'
          · exact HD.out i hi h'
          · subst h'; exact h)
        clear hc hx5 hxv
        generalize l[j] = x at *
        cases hg : x.good with
        | true =>
          have T3 := Lib.hid (T1.out hg)
          rw [hg] at HC
          clear T1 T2 hg
          go_wp2_with (go_at_call 38; with_reducible refine (HC.out _ HBW.out).mono ?_; rintro e2 w2 ⟨rfl, hb2⟩)
          go_roundw
          case rel => exact ⟨j + 1, by omega, by go_num, T3.out, HBW.out.trans (hb2.mono hs)⟩
          case measure => simp [intOf]; omega
        | false =>
          have T3 := Lib.hid (T2.out hg)
          rw [hg] at HC
          clear T1 T2 hg
          go_wp2_with (go_at_call 38; with_reducible refine (HC.out _ HBW.out).mono ?_; rintro e2 w2 ⟨rfl, hb2⟩)
          go_ret
          exact ⟨ret_bool T3.out.symm, HBW.out.trans (hb2.mono hs)⟩
      · obtain rfl : nl = j := by omega
        have T3 := Lib.hid (DO.out fun i hi => HD.out i hi (by have := NL.out; omega))
        clear DO DN HD NL
        go_wp2
        go_ret
        exact ⟨ret_bool T3.out.symm, hb⟩
theorem within_any (v : V) (lv : Nat) (w : World) (L N b o : Nat) (cs : List Value) (hlv : lv ≤ 1000000) (h5 : Five w b o cs) (hbN : b < N) (hv : VIs w L N v cs) (hN : N ≤ w.heap.size) :
    Calls Tryd.prog 37 #[.pointer (some ⟨b, o, none⟩), .int .i64 lv] w fun e w' => e = .returned (.bool (decide (v.depth ≤ lv))) ∧ Below w.heap.size w w' :=
  within_at v.size v lv w L N b o cs (Nat.le_refl _) hlv h5 hbN hv hN
theorem fits_any (v : V) (w : World) (L N b o : Nat) (cs : List Value) (h5 : Five w b o cs) (hbN : b < N) (hv : VIs w L N v cs) (hN : N ≤ w.heap.size) :
    Calls Tryd.prog 38 #[.pointer (some ⟨b, o, none⟩)] w fun e w' => e = .returned (.bool v.good) ∧ Below w.heap.size w w' :=
  fits_at v.size v w L N b o cs (Nat.le_refl _) h5 hbN hv hN
/-- a value's five cells in a new block -/
theorem five_new {w : World} {L N : Nat} {v : V} {cs : List Value} (hv : VIs w L N v cs) (t : TypeId) : Five (w.alloc (.cells cs.toArray t)) w.heap.size 0 cs := by
  obtain ⟨k, n, t', l, ks⟩ := v
  obtain ⟨-, A, c, A', c', rfl, -, -⟩ := hv.out
  refine ⟨_, _, _, _, _, rfl, ?_, ?_, ?_, ?_, ?_⟩ <;> simp
set_option maxRecDepth 100000 in
theorem good_any (v : V) (w : World) (L N : Nat) (cs : List Value) (hv : VIs w L N v cs) (hN : N ≤ w.heap.size) :
    Calls Tryd.prog 22 #[.agg cs.toArray] w fun e w' => e = .returned (.bool (v.fits 8)) ∧ Below w.heap.size w w' := by
  have hb0 := (Below.refl w.heap.size w).alloc (Nat.le_refl _) (.cells cs.toArray 25)
  have h5 := five_new hv 25
  have hs : (w.alloc (.cells cs.toArray 25)).heap.size = w.heap.size + 1 := by simp
  have c1 : Calls Tryd.prog 37 #[.pointer (some ⟨w.heap.size, 0, none⟩), .int .i64 8] (w.alloc (.cells cs.toArray 25)) fun e w' => e = .returned (.bool (decide (v.depth ≤ 8))) ∧ Below (w.alloc (.cells cs.toArray 25)).heap.size (w.alloc (.cells cs.toArray 25)) w' := within_any v 8 (w.alloc (.cells cs.toArray 25)) 0 (w.heap.size + 1) w.heap.size 0 cs (by decide) h5 (by omega) ((hv.below (hb0.mono hN)).more (Nat.zero_le _) (by omega)) (by rw [hs]; exact Nat.le_refl _)
  have c2 := fun wq (hb : Below (w.heap.size + 1) (w.alloc (.cells cs.toArray 25)) wq) => fits_any v wq 0 (w.heap.size + 1) w.heap.size 0 cs (h5.keep (N := w.heap.size + 1) (by omega) (fun p hp => hb.cell hp)) (by omega) (((hv.below (hb0.mono hN)).more (Nat.zero_le _) (show N ≤ w.heap.size + 1 by omega)).below hb) (by have := hb.size; rw [hs] at this; exact this)
  rw [fits_good]
  rw [hs] at c1
  obtain ⟨A, c, A', c', rfl, -, -⟩ := (show ∃ A c A' c', cs = [.int .i64 v.kind, .int .i64 v.num, .string ⟨v.text.toArray⟩, .slice A v.list.length c, .slice A' v.keys.length c'] ∧ True ∧ True by
    obtain ⟨k, n, t', l, ks⟩ := v
    obtain ⟨-, A, c, A', c', rfl, -, -⟩ := hv.out
    exact ⟨A, c, A', c', rfl, trivial, trivial⟩)
  have C1 := Lib.hid c1; have C2 := Lib.hid c2; have HB0 := Lib.hid hb0
  clear c1 c2 hb0 h5 hv hs
  cases hd : decide (v.depth ≤ 8) with
  | false =>
    rw [hd] at C1
    go_enter Tryd.func22, Tryd.ntmps22
    go_wp2_with (go_at_call 37; with_reducible refine (C1.out).mono ?_; rintro e1 w1 ⟨rfl, hb1⟩)
    go_ret
    exact ⟨rfl, HB0.out.trans (hb1.mono (by omega))⟩
  | true =>
    rw [hd] at C1
    go_enter Tryd.func22, Tryd.ntmps22
    go_wp2_with (first | (go_at_call 37; with_reducible refine (C1.out).mono ?_; rintro e1 w1 ⟨rfl, hb1⟩) | (go_at_call 38; with_reducible refine (C2.out _ hb1).mono ?_; rintro e2 w2 ⟨rfl, hb2⟩))
    go_ret
    exact ⟨ret_bool (by cases v.good <;> rfl), (HB0.out.trans (hb1.mono (by omega))).trans (hb2.mono (by have := hb1.size; simp at this; omega))⟩
end Go.Proofs.YtobicmpgfiddhaaDoor
