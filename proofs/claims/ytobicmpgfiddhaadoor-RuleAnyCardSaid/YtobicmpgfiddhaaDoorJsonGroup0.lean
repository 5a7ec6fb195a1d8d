/- JSON: the two rows that the code's group fills, and the items' memory. -/
import Derived.Test.YtobicmpgfiddhaaDoorJsonSet
import Derived.Maps.AppendAt
namespace Go.Proofs.YtobicmpgfiddhaaDoor
open Go.RowKit

def ksCells (ks : List (List UInt8)) : List Value := ks.map fun t => .string ⟨t.toArray⟩
theorem ksCells_snoc (ks : List (List UInt8)) (t : List UInt8) : ksCells (ks ++ [t]) = ksCells ks ++ [.string ⟨t.toArray⟩] := by simp [ksCells]
/-- what holds of group's memory behind so many keys and items -/
structure GSt (R : Nat) (kind : Int) (w wr : World) (lv kv : Value) (l : List V) (ks : List (List UInt8)) (xs : List Value) : Prop where
  var : wr.heap[R + 1]? = some (.cells #[.int .i64 kind, .int .i64 0, .string ⟨#[]⟩, lv, kv] 25 (0, 0))
  res : wr.heap[R]? = some (.cells #[.int .i64 0, .int .i64 0, .string ⟨#[]⟩, .slice none 0 0, .slice none 0 0] 25 (0, 0))
  rowL : wr.ownsRow (R + 2) 25 5 lv l.length xs
  rowK : wr.ownsRow (R + 2) 9 1 kv ks.length (ksCells ks)
  elem : ∀ i (h : i < l.length), ∃ c0 c1 c2 c3 c4 L N, xs[i * 5]? = some c0 ∧ xs[i * 5 + 1]? = some c1 ∧ xs[i * 5 + 2]? = some c2 ∧ xs[i * 5 + 3]? = some c3 ∧ xs[i * 5 + 4]? = some c4 ∧
    VIs wr L N l[i] [c0, c1, c2, c3, c4] ∧ R + 2 ≤ L ∧ N ≤ wr.heap.size ∧ ∀ g, (lv.ownBlock = some g ∨ kv.ownBlock = some g) → ¬ (L ≤ g ∧ g < N)
  low : Below R w wr
  size : R + 2 ≤ wr.heap.size
theorem GSt.later {R : Nat} {kind : Int} {w wr w1 : World} {lv kv : Value} {l : List V} {ks : List (List UInt8)} {xs : List Value} (h : GSt R kind w wr lv kv l ks xs) (hb : Below wr.heap.size wr w1) : GSt R kind w w1 lv kv l ks xs := by
  obtain ⟨h1, h2, h3, h4, h5, h6, h7⟩ := h
  refine ⟨(hb.block _ (by omega)).trans h1, (hb.block _ (by omega)).trans h2, own_below h3 hb, own_below h4 hb, fun i hi => ?_, h6.trans (hb.mono (by omega)), Nat.le_trans h7 hb.size⟩
  obtain ⟨c0, c1, c2, c3, c4, L, N, e0, e1, e2, e3, e4, hv, hL, hN, hg⟩ := h5 i hi
  exact ⟨c0, c1, c2, c3, c4, L, N, e0, e1, e2, e3, e4, hv.below (hb.mono hN), hL, Nat.le_trans hN hb.size, hg⟩
/-- a key more: behind the append, and the store of its row -/
theorem GSt.key {R : Nat} {kind : Int} {w wr w2 : World} {lv kv kv' : Value} {l : List V} {ks : List (List UInt8)} {xs : List Value} (h : GSt R kind w wr lv kv l ks xs) (t : List UInt8)
    (hown : w2.ownsRow (R + 2) 9 1 kv' (ks.length + 1) (ksCells ks ++ [.string ⟨t.toArray⟩])) (hg : wr.grownBy w2 kv.ownBlock) (hat : kv'.ownBlock = kv.ownBlock ∨ kv'.ownBlock = some wr.heap.size) :
    GSt R kind w (w2.setCell ⟨R + 1, 4, none⟩ kv') lv kv' l (ks ++ [t]) xs := by
  obtain ⟨h1, h2, h3, h4, h5, h6, h7⟩ := h
  have hlt := h4.lt
  have hltL := h3.lt
  have hsz := hg.size
  have hblk : ∀ k, k < wr.heap.size → kv.ownBlock ≠ some k → k ≠ R + 1 → (w2.setCell ⟨R + 1, 4, none⟩ kv').heap[k]? = wr.heap[k]? := fun k hk hne hk1 => (set_there _ hk1).trans (hg.block k hk (fun e => hne e.symm))
  have hR1 : w2.heap[R + 1]? = wr.heap[R + 1]? := hg.block _ (by omega) (fun e => by have := (hlt _ e.symm).1; omega)
  have hown' := hown
  refine ⟨set_here (hR1.trans h1) _, (hblk R (by omega) (fun e => by have := (hlt _ e).1; omega) (by omega)).trans h2, own_kept h3 (fun g hgl => ?_), ?_, fun i hi => ?_, ?_, by rw [set_size]; omega⟩
  · exact hblk g (hltL g hgl).2 (fun e => own_apart h3 h4 (by decide) g hgl e) (by have := (hltL g hgl).1; omega)
  · rw [ksCells_snoc, List.length_append, List.length_singleton]
    exact own_kept hown (fun g hgk => set_there _ (by have := (hown.lt g hgk).1; omega))
  · obtain ⟨c0, c1, c2, c3, c4, L, N, e0, e1, e2, e3, e4, hv, hL, hN, hgg⟩ := h5 i hi
    refine ⟨c0, c1, c2, c3, c4, L, N, e0, e1, e2, e3, e4, hv.keep2 fun p hp1 hp2 => ?_, hL, by rw [set_size]; omega, fun g hgo => ?_⟩
    · exact World.cell?_of_block (w := wr) (hblk p.block (by omega) (fun e => hgg _ (.inr e) ⟨hp1, hp2⟩) (by omega))
    · rcases hgo with e | e
      · exact hgg g (.inl e)
      · rcases hat with ha | ha
        · exact hgg g (.inr (by rw [← ha]; exact e))
        · rw [ha] at e; injection e with e; omega
  · refine (h6.trans ((Below.refl R wr).grown hg (by omega) (fun k hk => by have := (hlt k hk).1; omega))).setCell (p := ⟨R + 1, 4, none⟩) (by show R ≤ R + 1; omega) _
theorem app_at {xs : List Value} {n k : Nat} (h : xs.length = n * 5) (c0 c1 c2 c3 c4 : Value) (hk : k < 5) : (xs ++ [c0, c1, c2, c3, c4])[n * 5 + k]? = [c0, c1, c2, c3, c4][k]? := by
  rw [List.getElem?_append_right (by omega), h]
  congr 1; omega
/-- an item more -/
theorem GSt.item {R : Nat} {kind : Int} {w wr w2 : World} {lv lv' kv : Value} {l : List V} {ks : List (List UInt8)} {xs : List Value} {c0 c1 c2 c3 c4 : Value} {L0 N0 : Nat} (h : GSt R kind w wr lv kv l ks xs) (x : V)
    (hx : VIs wr L0 N0 x [c0, c1, c2, c3, c4]) (hx1 : R + 2 ≤ L0) (hx2 : N0 ≤ wr.heap.size) (hx3 : ∀ g, (lv.ownBlock = some g ∨ kv.ownBlock = some g) → ¬ (L0 ≤ g ∧ g < N0))
    (hown : w2.ownsRow (R + 2) 25 5 lv' (l.length + 1) (xs ++ [c0, c1, c2, c3, c4])) (hg : wr.grownBy w2 lv.ownBlock) (hat : lv'.ownBlock = lv.ownBlock ∨ lv'.ownBlock = some wr.heap.size) :
    GSt R kind w (w2.setCell ⟨R + 1, 3, none⟩ lv') lv' kv (l ++ [x]) ks (xs ++ [c0, c1, c2, c3, c4]) := by
  obtain ⟨h1, h2, h3, h4, h5, h6, h7⟩ := h
  have hlt := h3.lt
  have hltK := h4.lt
  have hsz := hg.size
  have hxl := h3.1
  have hblk : ∀ k, k < wr.heap.size → lv.ownBlock ≠ some k → k ≠ R + 1 → (w2.setCell ⟨R + 1, 3, none⟩ lv').heap[k]? = wr.heap[k]? := fun k hk hne hk1 => (set_there _ hk1).trans (hg.block k hk (fun e => hne e.symm))
  have hR1 : w2.heap[R + 1]? = wr.heap[R + 1]? := hg.block _ (by omega) (fun e => by have := (hlt _ e.symm).1; omega)
  have hnew : ∀ {L N : Nat}, N ≤ wr.heap.size → (∀ g, (lv.ownBlock = some g ∨ kv.ownBlock = some g) → ¬ (L ≤ g ∧ g < N)) → ∀ g, (lv'.ownBlock = some g ∨ kv.ownBlock = some g) → ¬ (L ≤ g ∧ g < N) := fun hN hgg g hgo => by
    rcases hgo with e | e
    · rcases hat with ha | ha
      · exact hgg g (.inl (by rw [← ha]; exact e))
      · rw [ha] at e; injection e with e; omega
    · exact hgg g (.inr e)
  refine ⟨set_here (hR1.trans h1) _, (hblk R (by omega) (fun e => by have := (hlt _ e).1; omega) (by omega)).trans h2, ?_, own_kept h4 (fun g hgk => ?_), fun i hi => ?_, ?_, by rw [set_size]; omega⟩
  · rw [List.length_append, List.length_singleton]
    exact own_kept hown (fun g hgk => set_there _ (by have := (hown.lt g hgk).1; omega))
  · exact hblk g (hltK g hgk).2 (fun e => own_apart h3 h4 (by decide) g e hgk) (by have := (hltK g hgk).1; omega)
  · rcases Nat.lt_or_ge i l.length with hil | hil
    · obtain ⟨d0, d1, d2, d3, d4, L, N, e0, e1, e2, e3, e4, hv, hL, hN, hgg⟩ := h5 i hil
      have hgl : (l ++ [x])[i] = l[i] := List.getElem_append_left hil
      rw [hgl]
      refine ⟨d0, d1, d2, d3, d4, L, N, ?_, ?_, ?_, ?_, ?_, hv.keep2 fun p hp1 hp2 => ?_, hL, by rw [set_size]; omega, hnew hN hgg⟩
      · rw [List.getElem?_append_left (by omega)]; exact e0
      · rw [List.getElem?_append_left (by omega)]; exact e1
      · rw [List.getElem?_append_left (by omega)]; exact e2
      · rw [List.getElem?_append_left (by omega)]; exact e3
      · rw [List.getElem?_append_left (by omega)]; exact e4
      · exact World.cell?_of_block (w := wr) (hblk p.block (by omega) (fun e => hgg _ (.inl e) ⟨hp1, hp2⟩) (by omega))
    · have hie : i = l.length := by simp at hi; omega
      subst hie
      have hgl : (l ++ [x])[l.length] = x := by simp
      rw [hgl]
      refine ⟨c0, c1, c2, c3, c4, L0, N0, app_at hxl _ _ _ _ _ (k := 0) (by decide), app_at hxl _ _ _ _ _ (k := 1) (by decide), app_at hxl _ _ _ _ _ (k := 2) (by decide), app_at hxl _ _ _ _ _ (k := 3) (by decide), app_at hxl _ _ _ _ _ (k := 4) (by decide), hx.keep2 fun p hp1 hp2 => ?_, hx1, by rw [set_size]; omega, hnew hx2 hx3⟩
      exact World.cell?_of_block (w := wr) (hblk p.block (by omega) (fun e => hx3 _ (.inl e) ⟨hp1, hp2⟩) (by omega))
  · exact (h6.trans ((Below.refl R wr).grown hg (by omega) (fun k hk => by have := (hlt k hk).1; omega))).setCell (p := ⟨R + 1, 3, none⟩) (by show R ≤ R + 1; omega) _
/-- the whole -/
theorem GSt.done {R : Nat} {kind : Int} {w wr wf : World} {lv kv : Value} {l : List V} {ks : List (List UInt8)} {xs : List Value} (h : GSt R kind w wr lv kv l ks xs) (hl : l.length ≤ 9223372036854775807) (hk : ks.length ≤ 9223372036854775807) (hz : ∀ x ∈ ks, x.length ≤ 9223372036854775807)
    (hf : ∀ b, b ≠ R → wf.heap[b]? = wr.heap[b]?) (hs : wf.heap.size = wr.heap.size) : VIs wf R wf.heap.size (.mk kind 0 [] l ks) [.int .i64 kind, .int .i64 0, .string ⟨#[]⟩, lv, kv] := by
  obtain ⟨h1, h2, h3, h4, h5, h6, h7⟩ := h
  have hcell : ∀ p : Addr, p.block ≠ R → wf.cell? p = wr.cell? p := fun p hp => World.cell?_of_block (w := wr) (hf _ hp)
  obtain ⟨A, c, rfl, hA⟩ : ∃ A c, lv = .slice A l.length c ∧ (l = [] ∨ ∃ b o, A = some ⟨b, o, none⟩ ∧ LIs wf R wf.heap.size l b o) := by
    have hc := fun g => World.ownsRow.cells (g := g) h3
    rcases h3.2 with ⟨hv, h0⟩ | ⟨g, cap, cur, hv, hB, hg, _⟩
    · exact ⟨none, 0, by rw [hv, h0], .inl (List.length_eq_zero_iff.1 h0)⟩
    · refine ⟨_, _, hv, .inr ⟨g, 0, rfl, LIs.of (by omega) (by rw [hs]; exact (Array.getElem?_eq_some_iff.1 hg).1) fun i hi => ?_⟩⟩
      obtain ⟨c0, c1, c2, c3, c4, L, N, e0, e1, e2, e3, e4, hv', hL, hN, hgg⟩ := h5 i hi
      have hcc : ∀ j u, xs[j]? = some u → wf.cell? ⟨g, 0 + j, none⟩ = some u := fun j u hu => by
        rw [hcell _ (by show g ≠ R; omega)]
        have := hc g (by rw [hv]; rfl) j u hu
        rwa [Addr.add_lit] at this
      refine ⟨[c0, c1, c2, c3, c4], ⟨c0, c1, c2, c3, c4, rfl, hcc _ _ e0, hcc _ _ e1, hcc _ _ e2, hcc _ _ e3, hcc _ _ e4⟩, ?_⟩
      exact (hv'.keep2 fun p hp1 hp2 => hcell p (by omega)).more (by omega) (by omega)
  obtain ⟨A', c', rfl, hA'⟩ : ∃ A c, kv = .slice A ks.length c ∧ (ks = [] ∨ ∃ b o, A = some ⟨b, o, none⟩ ∧ KIs wf R wf.heap.size ks b o) := by
    have hc := fun g => World.ownsRow.cells (g := g) h4
    rcases h4.2 with ⟨hv, h0⟩ | ⟨g, cap, cur, hv, hB, hg, _⟩
    · exact ⟨none, 0, by rw [hv, h0], .inl (List.length_eq_zero_iff.1 h0)⟩
    · refine ⟨_, _, hv, .inr ⟨g, 0, rfl, KIs.of (by omega) (by rw [hs]; exact (Array.getElem?_eq_some_iff.1 hg).1) fun i hi => ?_⟩⟩
      rw [hcell _ (by show g ≠ R; omega)]
      have := hc g (by rw [hv]; rfl) i (.string ⟨ks[i].toArray⟩) (by unfold ksCells; rw [List.getElem?_map, List.getElem?_eq_getElem hi]; rfl)
      rwa [Addr.add_lit] at this
  exact VIs.mk (t := []) ⟨hl, hk, by simp, hz⟩ hA' hA
end Go.Proofs.YtobicmpgfiddhaaDoor
