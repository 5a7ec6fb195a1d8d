/- A list of values that is filled in a variable of its own: the row, and the items' memory. -/
import Derived.Test.YtobicmpgfiddhaaDoorJsonGroup0
namespace Go.Proofs.YtobicmpgfiddhaaDoor
open Go.RowKit
set_option linter.unusedVariables false
set_option linter.unusedSimpArgs false

/-- what holds of the list's memory behind so many items -/
structure LSt (R : Nat) (w wr : World) (lv : Value) (l : List V) (xs : List Value) : Prop where
  var : wr.heap[R]? = some (.cells #[.int .i64 5, .int .i64 0, .string ⟨#[]⟩, lv, .slice none 0 0] 25 (0, 0))
  rowL : wr.ownsRow (R + 1) 25 5 lv l.length xs
  elem : ∀ i (h : i < l.length), ∃ c0 c1 c2 c3 c4 L N, xs[i * 5]? = some c0 ∧ xs[i * 5 + 1]? = some c1 ∧ xs[i * 5 + 2]? = some c2 ∧ xs[i * 5 + 3]? = some c3 ∧ xs[i * 5 + 4]? = some c4 ∧
    VIs wr L N l[i] [c0, c1, c2, c3, c4] ∧ R + 1 ≤ L ∧ N ≤ wr.heap.size ∧ ∀ g, lv.ownBlock = some g → ¬ (L ≤ g ∧ g < N)
  low : Below R w wr
  size : R + 1 ≤ wr.heap.size
theorem LSt.later {R : Nat} {w wr w1 : World} {lv : Value} {l : List V} {xs : List Value} (h : LSt R w wr lv l xs) (hb : Below wr.heap.size wr w1) : LSt R w w1 lv l xs := by
  obtain ⟨h1, h3, h5, h6, h7⟩ := h
  refine ⟨(hb.block _ (by omega)).trans h1, own_below h3 hb, fun i hi => ?_, h6.trans (hb.mono (by omega)), Nat.le_trans h7 hb.size⟩
  obtain ⟨c0, c1, c2, c3, c4, L, N, e0, e1, e2, e3, e4, hv, hL, hN, hg⟩ := h5 i hi
  exact ⟨c0, c1, c2, c3, c4, L, N, e0, e1, e2, e3, e4, hv.below (hb.mono hN), hL, Nat.le_trans hN hb.size, hg⟩
/-- an item more: behind the append, and the store of the row -/
theorem LSt.item {R : Nat} {w wr w2 : World} {lv lv' : Value} {l : List V} {xs : List Value} {c0 c1 c2 c3 c4 : Value} {L0 N0 : Nat} (h : LSt R w wr lv l xs) (x : V)
    (hx : VIs wr L0 N0 x [c0, c1, c2, c3, c4]) (hx1 : R + 1 ≤ L0) (hx2 : N0 ≤ wr.heap.size) (hx3 : ∀ g, lv.ownBlock = some g → ¬ (L0 ≤ g ∧ g < N0))
    (hown : w2.ownsRow (R + 1) 25 5 lv' (l.length + 1) (xs ++ [c0, c1, c2, c3, c4])) (hg : wr.grownBy w2 lv.ownBlock) (hat : lv'.ownBlock = lv.ownBlock ∨ lv'.ownBlock = some wr.heap.size) :
    LSt R w (w2.setCell ⟨R, 3, none⟩ lv') lv' (l ++ [x]) (xs ++ [c0, c1, c2, c3, c4]) := by
  obtain ⟨h1, h3, h5, h6, h7⟩ := h
  have hlt := h3.lt
  have hsz := hg.size
  have hxl := h3.1
  have hblk : ∀ k, k < wr.heap.size → lv.ownBlock ≠ some k → k ≠ R → (w2.setCell ⟨R, 3, none⟩ lv').heap[k]? = wr.heap[k]? := fun k hk hne hk1 => (set_there _ hk1).trans (hg.block k hk (fun e => hne e.symm))
  have hR1 : w2.heap[R]? = wr.heap[R]? := hg.block _ (by omega) (fun e => by have := (hlt _ e.symm).1; omega)
  have hnew : ∀ {L N : Nat}, N ≤ wr.heap.size → (∀ g, lv.ownBlock = some g → ¬ (L ≤ g ∧ g < N)) → ∀ g, lv'.ownBlock = some g → ¬ (L ≤ g ∧ g < N) := fun hN hgg g e => by
    rcases hat with ha | ha
    · exact hgg g (by rw [← ha]; exact e)
    · rw [ha] at e; injection e with e; omega
  refine ⟨set_here (hR1.trans h1) _, ?_, fun i hi => ?_, ?_, by rw [set_size]; omega⟩
  · rw [List.length_append, List.length_singleton]
    exact own_kept hown (fun g hgk => set_there _ (by have := (hown.lt g hgk).1; omega))
  · rcases Nat.lt_or_ge i l.length with hil | hil
    · obtain ⟨d0, d1, d2, d3, d4, L, N, e0, e1, e2, e3, e4, hv, hL, hN, hgg⟩ := h5 i hil
      have hgl : (l ++ [x])[i] = l[i] := List.getElem_append_left hil
      rw [hgl]
      refine ⟨d0, d1, d2, d3, d4, L, N, ?_, ?_, ?_, ?_, ?_, hv.keep2 fun p hp1 hp2 => ?_, hL, by rw [set_size]; omega, hnew hN hgg⟩
      · rw [List.getElem?_append_left (by omega)]; exact e0
      · rw [List.getElem?_append_left (by omega)]; exact e1
      · rw [List.getElem?_append_left (by omega)]; exact e2
      · rw [List.getElem?_append_left (by omega)]; exact e3
      · rw [List.getElem?_append_left (by omega)]; exact e4
      · exact World.cell?_of_block (w := wr) (hblk p.block (by omega) (fun e => hgg _ e ⟨hp1, hp2⟩) (by omega))
    · have hie : i = l.length := by simp at hi; omega
      subst hie
      have hgl : (l ++ [x])[l.length] = x := by simp
      rw [hgl]
      refine ⟨c0, c1, c2, c3, c4, L0, N0, app_at hxl _ _ _ _ _ (k := 0) (by decide), app_at hxl _ _ _ _ _ (k := 1) (by decide), app_at hxl _ _ _ _ _ (k := 2) (by decide), app_at hxl _ _ _ _ _ (k := 3) (by decide), app_at hxl _ _ _ _ _ (k := 4) (by decide), hx.keep2 fun p hp1 hp2 => ?_, hx1, by rw [set_size]; omega, hnew hx2 hx3⟩
      exact World.cell?_of_block (w := wr) (hblk p.block (by omega) (fun e => hx3 _ e ⟨hp1, hp2⟩) (by omega))
  · exact (h6.trans ((Below.refl R wr).grown hg (by omega) (fun k hk => by have := (hlt k hk).1; omega))).setCell (p := ⟨R, 3, none⟩) (by show R ≤ R; omega) _
/-- the list, read -/
theorem LSt.done {R : Nat} {w wr : World} {lv : Value} {l : List V} {xs : List Value} (h : LSt R w wr lv l xs) (hl : l.length ≤ 9223372036854775807) :
    VIs wr (R + 1) wr.heap.size (.mk 5 0 [] l []) [.int .i64 5, .int .i64 0, .string ⟨#[]⟩, lv, .slice none 0 0] := by
  obtain ⟨h1, h3, h5, h6, h7⟩ := h
  obtain ⟨A, c, rfl, hA⟩ : ∃ A c, lv = .slice A l.length c ∧ (l = [] ∨ ∃ b o, A = some ⟨b, o, none⟩ ∧ LIs wr (R + 1) wr.heap.size l b o) := by
    have hc := fun g => World.ownsRow.cells (g := g) h3
    rcases h3.2 with ⟨hv, h0⟩ | ⟨g, cap, cur, hv, hB, hg, _⟩
    · exact ⟨none, 0, by rw [hv, h0], .inl (List.length_eq_zero_iff.1 h0)⟩
    · refine ⟨_, _, hv, .inr ⟨g, 0, rfl, LIs.of (by omega) (Array.getElem?_eq_some_iff.1 hg).1 fun i hi => ?_⟩⟩
      obtain ⟨c0, c1, c2, c3, c4, L, N, e0, e1, e2, e3, e4, hv', hL, hN, hgg⟩ := h5 i hi
      have hcc : ∀ j u, xs[j]? = some u → wr.cell? ⟨g, 0 + j, none⟩ = some u := fun j u hu => by
        have := hc g (by rw [hv]; rfl) j u hu
        rwa [Addr.add_lit] at this
      refine ⟨[c0, c1, c2, c3, c4], ⟨c0, c1, c2, c3, c4, rfl, hcc _ _ e0, hcc _ _ e1, hcc _ _ e2, hcc _ _ e3, hcc _ _ e4⟩, ?_⟩
      exact hv'.more (by omega) (by omega)
  exact VIs.mk (t := []) (ks := []) ⟨hl, by simp, by simp, by simp⟩ (.inl rfl) hA
theorem LSt.varL {R : Nat} {w wr w2 : World} {lv : Value} {l : List V} {xs : List Value} (h : LSt R w wr lv l xs) (hg : wr.grownBy w2 lv.ownBlock) :
    w2.heap[R]? = some (.cells #[.int .i64 5, .int .i64 0, .string ⟨#[]⟩, lv, .slice none 0 0] 25 (0, 0)) :=
  (hg.block _ (by have := h.size; omega) (fun e => by have := (h.rowL.lt _ e.symm).1; omega)).trans h.var
theorem LSt.start (w : World) : LSt w.heap.size w (w.alloc (.cells #[.int .i64 5, .int .i64 0, .string ⟨#[]⟩, .slice none 0 0, .slice none 0 0] 25)) (.slice none 0 0) [] [] :=
  ⟨heap_alloc_last w _, World.ownsRow_nil _ _ _ _, fun i h => absurd h (Nat.not_lt_zero _), (Below.refl _ _).alloc (Nat.le_refl _) _, by simp⟩
end Go.Proofs.YtobicmpgfiddhaaDoor
