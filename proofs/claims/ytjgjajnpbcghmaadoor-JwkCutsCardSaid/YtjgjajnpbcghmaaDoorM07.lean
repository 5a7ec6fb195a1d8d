/- Texts merged by program, in build order: JsonGroup0, JsonRows, JwkKey, JsonEsc. -/
import Derived.Test.YtjgjajnpbcghmaaDoorM05
import Derived.Maps.AppendAt
import Derived.Laws.AppendOwnNone
import Derived.Deep.WholeRow
import Derived.Test.YtjgjajnpbcghmaaDoorM06
import Derived.Test.YtjgjajnpbcghmaaDoorM04
import Derived.Test.YtjgjajnpbcghmaaDoorM03
import Derived.Deep.RegionWith
import Derived.Deep.QuietTactic
namespace Go.Proofs.YtjgjajnpbcghmaaDoor
open Go.RowKit

theorem own_below {w w' : World} {B size n : Nat} {e : TypeId} {v : Value} {xs : List Value} (h : w.ownsRow B e size v n xs) (hb : Below w.heap.size w w') : w'.ownsRow B e size v n xs :=
  World.ownsRow.kept (row := none) h ⟨hb.os, hb.tape, hb.output, hb.size, fun k hk _ => hb.block k hk⟩ (by
    rcases h.2 with ⟨rfl, _⟩ | ⟨g, cap, cur, rfl, _⟩
    · exact .inl rfl
    · exact .inr (by simp [Value.ownBlock]))
theorem own_kept {w w' : World} {B size n : Nat} {e : TypeId} {v : Value} {xs : List Value} (h : w.ownsRow B e size v n xs) (hb : ∀ g, v.ownBlock = some g → w'.heap[g]? = w.heap[g]?) : w'.ownsRow B e size v n xs := by
  refine ⟨h.1, ?_⟩
  rcases h.2 with h' | ⟨g, cap, cur, hv, hB, hg, r⟩
  · exact .inl h'
  · exact .inr ⟨g, cap, cur, hv, hB, by rw [hb g (by rw [hv]; rfl)]; exact hg, r⟩
theorem own_apart {w : World} {B B' s s' n n' : Nat} {e e' : TypeId} {v v' : Value} {xs xs' : List Value} (h : w.ownsRow B e s v n xs) (h' : w.ownsRow B' e' s' v' n' xs') (he : e ≠ e') (g : Nat) (hv : v.ownBlock = some g) (hv' : v'.ownBlock = some g) : False := by
  rcases h.2 with ⟨rfl, _⟩ | ⟨k, cap, cur, rfl, _, hg, _⟩
  · cases hv
  rcases h'.2 with ⟨rfl, _⟩ | ⟨k', cap', cur', rfl, _, hg', _⟩
  · cases hv'
  · injection hv with hv; injection hv' with hv'
    subst hv; subst hv'
    rw [hg] at hg'
    injection hg' with hg'
    injection hg' with _ e
    exact he e
def ksCells (ks : List (List UInt8)) : List Value := ks.map fun t => .string ⟨t.toArray⟩
theorem ksCells_snoc (ks : List (List UInt8)) (t : List UInt8) : ksCells (ks ++ [t]) = ksCells ks ++ [.string ⟨t.toArray⟩] := by simp [ksCells]
/-- what holds of group's memory behind so many keys and items -/
structure GSt (R : Nat) (kind : Int) (w wr : World) (lv kv : Value) (l : List V) (ks : List (List UInt8)) (xs : List Value) : Prop where
  var : wr.heap[R + 1]? = some (.cells #[.int .i64 kind, .int .i64 0, .string ⟨#[]⟩, lv, kv] 34 (0, 0))
  res : wr.heap[R]? = some (.cells #[.int .i64 0, .int .i64 0, .string ⟨#[]⟩, .slice none 0 0, .slice none 0 0] 34 (0, 0))
  rowL : wr.ownsRow (R + 2) 34 5 lv l.length xs
  rowK : wr.ownsRow (R + 2) 9 1 kv ks.length (ksCells ks)
  elem : ∀ i (h : i < l.length), ∃ c0 c1 c2 c3 c4 L N, xs[i * 5]? = some c0 ∧ xs[i * 5 + 1]? = some c1 ∧ xs[i * 5 + 2]? = some c2 ∧ xs[i * 5 + 3]? = some c3 ∧ xs[i * 5 + 4]? = some c4 ∧
    VIs wr L N l[i] [c0, c1, c2, c3, c4] ∧ R + 2 ≤ L ∧ N ≤ wr.heap.size ∧ ∀ g, (lv.ownBlock = some g ∨ kv.ownBlock = some g) → ¬ (L ≤ g ∧ g < N)
  low : Below R w wr
  size : R + 2 ≤ wr.heap.size
theorem GSt.later {R : Nat} {kind : Int} {w wr w1 : World} {lv kv : Value} {l : List V} {ks : List (List UInt8)} {xs : List Value} (h : GSt R kind w wr lv kv l ks xs) (hb : Below wr.heap.size wr w1) : GSt R kind w w1 lv kv l ks xs := by
  obtain ⟨h1, h2, h3, h4, h5, h6, h7⟩ := h
  refine ⟨(hb.block _ (by omega)).trans h1, (hb.block _ (by omega)).trans h2, own_below h3 hb, own_below h4 hb, fun i hi => ?_, h6.trans (hb.mono (by omega)), Nat.le_trans h7 hb.size⟩
  obtain ⟨c0, c1, c2, c3, c4, L, N, e0, e1, e2, e3, e4, hv, hL, hN, hg⟩ := h5 i hi
  exact ⟨c0, c1, c2, c3, c4, L, N, e0, e1, e2, e3, e4, hv.below (hb.mono hN), hL, Nat.le_trans hN hb.size, hg⟩
/-- a key more: behind the append, and the store of its row -/
theorem GSt.key {R : Nat} {kind : Int} {w wr w2 : World} {lv kv kv' : Value} {l : List V} {ks : List (List UInt8)} {xs : List Value} (h : GSt R kind w wr lv kv l ks xs) (t : List UInt8)
    (hown : w2.ownsRow (R + 2) 9 1 kv' (ks.length + 1) (ksCells ks ++ [.string ⟨t.toArray⟩])) (hg : wr.grownBy w2 kv.ownBlock) (hat : kv'.ownBlock = kv.ownBlock ∨ kv'.ownBlock = some wr.heap.size) :
    GSt R kind w (w2.setCell ⟨R + 1, 4, none⟩ kv') lv kv' l (ks ++ [t]) xs := by
  obtain ⟨h1, h2, h3, h4, h5, h6, h7⟩ := h
  have hlt := h4.lt
  have hltL := h3.lt
  have hsz := hg.size
  have hblk : ∀ k, k < wr.heap.size → kv.ownBlock ≠ some k → k ≠ R + 1 → (w2.setCell ⟨R + 1, 4, none⟩ kv').heap[k]? = wr.heap[k]? := fun k hk hne hk1 => (set_there _ hk1).trans (hg.block k hk (fun e => hne e.symm))
  have hR1 : w2.heap[R + 1]? = wr.heap[R + 1]? := hg.block _ (by omega) (fun e => by have := (hlt _ e.symm).1; omega)
  have hown' := hown
  refine ⟨set_here (hR1.trans h1) _, (hblk R (by omega) (fun e => by have := (hlt _ e).1; omega) (by omega)).trans h2, own_kept h3 (fun g hgl => ?_), ?_, fun i hi => ?_, ?_, by rw [set_size]; omega⟩
  · exact hblk g (hltL g hgl).2 (fun e => own_apart h3 h4 (by decide) g hgl e) (by have := (hltL g hgl).1; omega)
  · rw [ksCells_snoc, List.length_append, List.length_singleton]
    exact own_kept hown (fun g hgk => set_there _ (by have := (hown.lt g hgk).1; omega))
  · obtain ⟨c0, c1, c2, c3, c4, L, N, e0, e1, e2, e3, e4, hv, hL, hN, hgg⟩ := h5 i hi
    refine ⟨c0, c1, c2, c3, c4, L, N, e0, e1, e2, e3, e4, hv.keep2 fun p hp1 hp2 => ?_, hL, by rw [set_size]; omega, fun g hgo => ?_⟩
    · exact World.cell?_of_block (w := wr) (hblk p.block (by omega) (fun e => hgg _ (.inr e) ⟨hp1, hp2⟩) (by omega))
    · rcases hgo with e | e
      · exact hgg g (.inl e)
      · rcases hat with ha | ha
        · exact hgg g (.inr (by rw [← ha]; exact e))
        · rw [ha] at e; injection e with e; omega
  · refine (h6.trans ((Below.refl R wr).grown hg (by omega) (fun k hk => by have := (hlt k hk).1; omega))).setCell (p := ⟨R + 1, 4, none⟩) (by show R ≤ R + 1; omega) _
theorem app_at {xs : List Value} {n k : Nat} (h : xs.length = n * 5) (c0 c1 c2 c3 c4 : Value) (hk : k < 5) : (xs ++ [c0, c1, c2, c3, c4])[n * 5 + k]? = [c0, c1, c2, c3, c4][k]? := by
  rw [List.getElem?_append_right (by omega), h]
  congr 1; omega
/-- an item more -/
theorem GSt.item {R : Nat} {kind : Int} {w wr w2 : World} {lv lv' kv : Value} {l : List V} {ks : List (List UInt8)} {xs : List Value} {c0 c1 c2 c3 c4 : Value} {L0 N0 : Nat} (h : GSt R kind w wr lv kv l ks xs) (x : V)
    (hx : VIs wr L0 N0 x [c0, c1, c2, c3, c4]) (hx1 : R + 2 ≤ L0) (hx2 : N0 ≤ wr.heap.size) (hx3 : ∀ g, (lv.ownBlock = some g ∨ kv.ownBlock = some g) → ¬ (L0 ≤ g ∧ g < N0))
    (hown : w2.ownsRow (R + 2) 34 5 lv' (l.length + 1) (xs ++ [c0, c1, c2, c3, c4])) (hg : wr.grownBy w2 lv.ownBlock) (hat : lv'.ownBlock = lv.ownBlock ∨ lv'.ownBlock = some wr.heap.size) :
    GSt R kind w (w2.setCell ⟨R + 1, 3, none⟩ lv') lv' kv (l ++ [x]) ks (xs ++ [c0, c1, c2, c3, c4]) := by
  obtain ⟨h1, h2, h3, h4, h5, h6, h7⟩ := h
  have hlt := h3.lt
  have hltK := h4.lt
  have hsz := hg.size
  have hxl := h3.1
  have hblk : ∀ k, k < wr.heap.size → lv.ownBlock ≠ some k → k ≠ R + 1 → (w2.setCell ⟨R + 1, 3, none⟩ lv').heap[k]? = wr.heap[k]? := fun k hk hne hk1 => (set_there _ hk1).trans (hg.block k hk (fun e => hne e.symm))
  have hR1 : w2.heap[R + 1]? = wr.heap[R + 1]? := hg.block _ (by omega) (fun e => by have := (hlt _ e.symm).1; omega)
  have hnew : ∀ {L N : Nat}, N ≤ wr.heap.size → (∀ g, (lv.ownBlock = some g ∨ kv.ownBlock = some g) → ¬ (L ≤ g ∧ g < N)) → ∀ g, (lv'.ownBlock = some g ∨ kv.ownBlock = some g) → ¬ (L ≤ g ∧ g < N) := fun hN hgg g hgo => by
    rcases hgo with e | e
    · rcases hat with ha | ha
      · exact hgg g (.inl (by rw [← ha]; exact e))
      · rw [ha] at e; injection e with e; omega
    · exact hgg g (.inr e)
  refine ⟨set_here (hR1.trans h1) _, (hblk R (by omega) (fun e => by have := (hlt _ e).1; omega) (by omega)).trans h2, ?_, own_kept h4 (fun g hgk => ?_), fun i hi => ?_, ?_, by rw [set_size]; omega⟩
  · rw [List.length_append, List.length_singleton]
    exact own_kept hown (fun g hgk => set_there _ (by have := (hown.lt g hgk).1; omega))
  · exact hblk g (hltK g hgk).2 (fun e => own_apart h3 h4 (by decide) g e hgk) (by have := (hltK g hgk).1; omega)
  · rcases Nat.lt_or_ge i l.length with hil | hil
    · obtain ⟨d0, d1, d2, d3, d4, L, N, e0, e1, e2, e3, e4, hv, hL, hN, hgg⟩ := h5 i hil
      have hgl : (l ++ [x])[i] = l[i] := List.getElem_append_left hil
      rw [hgl]
      refine ⟨d0, d1, d2, d3, d4, L, N, ?_, ?_, ?_, ?_, ?_, hv.keep2 fun p hp1 hp2 => ?_, hL, by rw [set_size]; omega, hnew hN hgg⟩
      · rw [List.getElem?_append_left (by omega)]; exact e0
      · rw [List.getElem?_append_left (by omega)]; exact e1
      · rw [List.getElem?_append_left (by omega)]; exact e2
      · rw [List.getElem?_append_left (by omega)]; exact e3
      · rw [List.getElem?_append_left (by omega)]; exact e4
      · exact World.cell?_of_block (w := wr) (hblk p.block (by omega) (fun e => hgg _ (.inl e) ⟨hp1, hp2⟩) (by omega))
    · have hie : i = l.length := by simp at hi; omega
      subst hie
      have hgl : (l ++ [x])[l.length] = x := by simp
      rw [hgl]
      refine ⟨c0, c1, c2, c3, c4, L0, N0, app_at hxl _ _ _ _ _ (k := 0) (by decide), app_at hxl _ _ _ _ _ (k := 1) (by decide), app_at hxl _ _ _ _ _ (k := 2) (by decide), app_at hxl _ _ _ _ _ (k := 3) (by decide), app_at hxl _ _ _ _ _ (k := 4) (by decide), hx.keep2 fun p hp1 hp2 => ?_, hx1, by rw [set_size]; omega, hnew hx2 hx3⟩
      exact World.cell?_of_block (w := wr) (hblk p.block (by omega) (fun e => hx3 _ (.inl e) ⟨hp1, hp2⟩) (by omega))
  · exact (h6.trans ((Below.refl R wr).grown hg (by omega) (fun k hk => by have := (hlt k hk).1; omega))).setCell (p := ⟨R + 1, 3, none⟩) (by show R ≤ R + 1; omega) _
/-- the whole -/
theorem GSt.done {R : Nat} {kind : Int} {w wr wf : World} {lv kv : Value} {l : List V} {ks : List (List UInt8)} {xs : List Value} (h : GSt R kind w wr lv kv l ks xs) (hl : l.length ≤ 9223372036854775807) (hk : ks.length ≤ 9223372036854775807) (hz : ∀ x ∈ ks, x.length ≤ 9223372036854775807)
    (hf : ∀ b, b ≠ R → wf.heap[b]? = wr.heap[b]?) (hs : wf.heap.size = wr.heap.size) : VIs wf R wf.heap.size (.mk kind 0 [] l ks) [.int .i64 kind, .int .i64 0, .string ⟨#[]⟩, lv, kv] := by
  obtain ⟨h1, h2, h3, h4, h5, h6, h7⟩ := h
  have hcell : ∀ p : Addr, p.block ≠ R → wf.cell? p = wr.cell? p := fun p hp => World.cell?_of_block (w := wr) (hf _ hp)
  obtain ⟨A, c, rfl, hA⟩ : ∃ A c, lv = .slice A l.length c ∧ (l = [] ∨ ∃ b o, A = some ⟨b, o, none⟩ ∧ LIs wf R wf.heap.size l b o) := by
    have hc := fun g => World.ownsRow.cells (g := g) h3
    rcases h3.2 with ⟨hv, h0⟩ | ⟨g, cap, cur, hv, hB, hg, _⟩
    · exact ⟨none, 0, by rw [hv, h0], .inl (List.length_eq_zero_iff.1 h0)⟩
    · refine ⟨_, _, hv, .inr ⟨g, 0, rfl, LIs.of (by omega) (by rw [hs]; exact (Array.getElem?_eq_some_iff.1 hg).1) fun i hi => ?_⟩⟩
      obtain ⟨c0, c1, c2, c3, c4, L, N, e0, e1, e2, e3, e4, hv', hL, hN, hgg⟩ := h5 i hi
      have hcc : ∀ j u, xs[j]? = some u → wf.cell? ⟨g, 0 + j, none⟩ = some u := fun j u hu => by
        rw [hcell _ (by show g ≠ R; omega)]
        have := hc g (by rw [hv]; rfl) j u hu
        rwa [Addr.add_lit] at this
      refine ⟨[c0, c1, c2, c3, c4], ⟨c0, c1, c2, c3, c4, rfl, hcc _ _ e0, hcc _ _ e1, hcc _ _ e2, hcc _ _ e3, hcc _ _ e4⟩, ?_⟩
      exact (hv'.keep2 fun p hp1 hp2 => hcell p (by omega)).more (by omega) (by omega)
  obtain ⟨A', c', rfl, hA'⟩ : ∃ A c, kv = .slice A ks.length c ∧ (ks = [] ∨ ∃ b o, A = some ⟨b, o, none⟩ ∧ KIs wf R wf.heap.size ks b o) := by
    have hc := fun g => World.ownsRow.cells (g := g) h4
    rcases h4.2 with ⟨hv, h0⟩ | ⟨g, cap, cur, hv, hB, hg, _⟩
    · exact ⟨none, 0, by rw [hv, h0], .inl (List.length_eq_zero_iff.1 h0)⟩
    · refine ⟨_, _, hv, .inr ⟨g, 0, rfl, KIs.of (by omega) (by rw [hs]; exact (Array.getElem?_eq_some_iff.1 hg).1) fun i hi => ?_⟩⟩
      rw [hcell _ (by show g ≠ R; omega)]
      have := hc g (by rw [hv]; rfl) i (.string ⟨ks[i].toArray⟩) (by unfold ksCells; rw [List.getElem?_map, List.getElem?_eq_getElem hi]; rfl)
      rwa [Addr.add_lit] at this
  exact VIs.mk (t := []) ⟨hl, hk, by simp, hz⟩ hA' hA
end Go.Proofs.YtjgjajnpbcghmaaDoor
namespace Go.Proofs.YtjgjajnpbcghmaaDoor
open Go.RowKit
set_option linter.unusedVariables false
set_option linter.unusedSimpArgs false

/-- append onto a row of the call's own, of a slice that may be nil, as one step of a region that draws its order; where the new row lies -/
theorem step_append_opt {P : Program} {w : World} {ops : Array Oper} {o : Oper} {a : Act} {K : Act → World → Prop} {Q : Exit → Act → World → Prop} {E : Prop} (hgd : o.guard = none) (s x : Operand) (t : TypeId)
    (ho : o.op = .call { callee := .builtin .append, args := #[s, x], argTypes := #[t, t] })
    (base : Nat) (e : TypeId) (i : TypeInfo) (z : Value) (size bytes : Nat) (ht : P.underlying t = some (.slice e)) (hi : P.info? e = some i) (hz : i.zero = some z)
    (hsize : i.size = size) (hby : i.bytes = bytes) (hzs : z.cells.size = size) (hsz : 0 < size)
    (v : Value) (n : Nat) (xs : List Value) (hs : a.eval s = v) (hown : w.ownsRow base e size v n xs)
    (A : Option Addr) (m c : Nat) (news : List Value) (hx : a.eval x = .slice A m c) (hl : news.length = m * size)
    (hnews : (A = none ∧ m = 0 ∧ c = 0) ∨ ∃ ad, A = some ad ∧ ∀ j u, news[j]? = some u → w.cell? (ad.add j) = some u) (h1 : ∀ u ∈ news, u.oneCell' = true)
    (h63 : n + m ≤ maxLen) (hbytes : (n + m) * bytes ≤ 140737488355328) (hbase : base ≤ w.heap.size)
    (h : ∀ v' w', w'.ownsRow base e size v' (n + m) (xs ++ news) → w.grownBy w' v.ownBlock → (v'.ownBlock = v.ownBlock ∨ v'.ownBlock = some w.heap.size) → K (a.put o.dst v') w') :
    if Region.wanted o (yielded ops a.tmps) = true then Oper.wp P o a w K Q else E := by
  have hw : Region.wanted o (yielded ops a.tmps) = true := by simp [Region.wanted, hgd]
  rw [if_pos hw]
  obtain ⟨v', w', hr, h2, h3, h4⟩ : ∃ v' w', (Builtin.append_ #[t, t] o.type #[v, .slice A m c]).run P w = .ok v' w' ∧ w'.ownsRow base e size v' (n + m) (xs ++ news) ∧ w.grownBy w' v.ownBlock ∧ (v'.ownBlock = v.ownBlock ∨ v'.ownBlock = some w.heap.size) := by
    rcases hnews with ⟨rfl, rfl, rfl⟩ | ⟨ad, rfl, hnews⟩
    · have hn : news = [] := List.eq_nil_of_length_eq_zero (by simpa using hl)
      subst hn
      refine ⟨v, w, run_append_owned_none (P := P) (w := w) base t o.type e i size ht hi v n xs hown, ?_, ⟨rfl, rfl, rfl, Nat.le_refl _, fun _ _ _ => rfl⟩, .inl rfl⟩
      simpa using hown
    · obtain ⟨v', w', hr, h2, h3, _, h5⟩ := run_append_own_at (P := P) w base t o.type e i z size bytes ht hi hz hsize hby hzs hsz v n xs hown ad m c news hl hnews h1 h63 hbytes hbase
      exact ⟨v', w', hr, h2, h3, h5⟩
  unfold Oper.wp execOp
  simp only [ho, resolve, invoke, builtin, Sem.run_bind, Sem.run_pure, Result.andThen_ok, List.map_toArray, List.map_cons, List.map_nil, hs, hx, hr]
  exact h v' w' h2 h3 h4

theorem blk_below {w w' : World} {b : Nat} {o : Obj} (h : w.heap[b]? = some o) (hb : Below w.heap.size w w') : w'.heap[b]? = some o :=
  (hb.block b (Array.getElem?_eq_some_iff.1 h).1).trans h
/-- a block that a row's growth does not touch -/
theorem grown_block {w w' : World} {row : Option Nat} {b : Nat} {o : Obj} (h : w.grownBy w' row) (hb : w.heap[b]? = some o) (hne : row ≠ some b) : w'.heap[b]? = some o :=
  (h.block b (Array.getElem?_eq_some_iff.1 hb).1 (fun e => hne e.symm)).trans hb
theorem alloc_block {w : World} {b : Nat} {o x : Obj} (hb : w.heap[b]? = some o) : (w.alloc x).heap[b]? = some o := (Below.heap_alloc _ _ _ (Array.getElem?_eq_some_iff.1 hb).1).trans hb
theorem own_not {w : World} {B size n b : Nat} {e t : TypeId} {v : Value} {xs : List Value} {C : Array Value} {fr : Nat × Nat} (h : w.ownsRow B e size v n xs) (hb : w.heap[b]? = some (.cells C t fr)) (he : e ≠ t) : v.ownBlock ≠ some b := by
  rcases h.2 with ⟨rfl, _⟩ | ⟨g, cap, cur, rfl, _, hg, _⟩
  · intro e; cases e
  · intro e
    injection e with e
    subst e
    rw [hb] at hg
    injection hg with hg
    injection hg with _ e'
    exact he e'.symm
theorem own_formR {w : World} {B size n : Nat} {e : TypeId} {v : Value} {xs : List Value} (h : w.ownsRow B e size v n xs) : ∃ A c, v = .slice A n c := by
  rcases h.2 with ⟨hv, h0⟩ | ⟨g, cap, cur, hv, _⟩
  · exact ⟨none, 0, by rw [hv, h0]⟩
  · exact ⟨_, _, hv⟩
/-- a row that has just been made, of no elements -/
theorem own_fresh (w : World) (B : Nat) (e : TypeId) (size : Nat) (hB : B ≤ w.heap.size) : (w.alloc (.cells #[] e)).ownsRow B e size (.slice (some ⟨w.heap.size, 0, none⟩) 0 0) 0 [] :=
  ⟨by simp, .inr ⟨w.heap.size, 0, #[], rfl, hB, heap_alloc_last w _, Nat.le_refl _, by unfold maxLen; decide, by simp, by simp⟩⟩
theorem own_freshAt (w : World) (B : Nat) (e : TypeId) (size g : Nat) (hg : g = w.heap.size) (hB : B ≤ w.heap.size) : (w.alloc (.cells #[] e)).ownsRow B e size (.slice (some ⟨g, 0, none⟩) 0 0) 0 [] := by
  subst hg; exact own_fresh w B e size hB
theorem own_grown {w w' : World} {B size n m c g k : Nat} {e : TypeId} {xs : List Value} (h : w.ownsRow B e size (.slice (some ⟨g, 0, none⟩) m c) n xs) (hg : w.grownBy w' (some k)) (hne : k ≠ g) : w'.ownsRow B e size (.slice (some ⟨g, 0, none⟩) m c) n xs :=
  own_kept h fun b hb => by
    obtain rfl : g = b := by injection hb
    exact hg.block g ((h.lt g rfl).2) (fun e => hne (by injection e with e; exact e.symm))
theorem own_other {w w' : World} {B B' s s' n m : Nat} {e e' : TypeId} {kv v : Value} {xs ys : List Value} (hK : w.ownsRow B e s kv n xs) (hL : w.ownsRow B' e' s' v m ys) (he : e ≠ e') (hg : w.grownBy w' v.ownBlock) : w'.ownsRow B e s kv n xs :=
  own_kept hK fun b hb => hg.block b (hK.lt b hb).2 fun h => own_apart hK hL he b hb h.symm
theorem far_of {X w : World} {B s n g p : Nat} {e : TypeId} {lv : Value} {xs : List Value} (hL : w.ownsRow B e s lv n xs) (hat : lv.ownBlock = some g ∨ lv.ownBlock = some X.heap.size) (h1 : g ≠ p) (h2 : p < X.heap.size ∨ w.heap.size ≤ p) : lv.ownBlock ≠ some p := fun e => by
  have h3 := (hL.lt _ e).2
  rcases hat with h | h
  · rw [h] at e; injection e with e; exact h1 e
  · rw [h] at e; injection e with e; omega
theorem intro_fact {p q : Prop} (h : p) (k : p → q) : q := k h
theorem one_at {w : World} {b : Nat} {v : Value} {t : TypeId} {fr : Nat × Nat} (h : w.heap[b]? = some (.cells #[v] t fr)) : ∀ j u, [v][j]? = some u → w.cell? ((⟨b, 0, none⟩ : Addr).add j) = some u := by
  intro j u hu
  rw [Addr.add_lit, Nat.zero_add, cell_here h]
  simpa using hu
theorem five_at {w : World} {b : Nat} {v0 v1 v2 v3 v4 : Value} {t : TypeId} {fr : Nat × Nat} (h : w.heap[b]? = some (.cells #[v0, v1, v2, v3, v4] t fr)) : ∀ j u, [v0, v1, v2, v3, v4][j]? = some u → w.cell? ((⟨b, 0, none⟩ : Addr).add j) = some u := by
  intro j u hu
  rw [Addr.add_lit, Nat.zero_add, cell_here h]
  simpa using hu
theorem far_of2 {X w : World} {B s n p : Nat} {e : TypeId} {lv lv0 : Value} {xs : List Value} (hL : w.ownsRow B e s lv n xs) (hat : lv.ownBlock = lv0.ownBlock ∨ lv.ownBlock = some X.heap.size) (h1 : lv0.ownBlock ≠ some p) (h2 : p < X.heap.size) : lv.ownBlock ≠ some p := fun e => by
  rcases hat with h | h
  · rw [h] at e; exact h1 e
  · rw [h] at e; injection e with e; omega
theorem fresh_at {w : World} {b : Nat} (o : Obj) (h : b = w.heap.size) : (w.alloc o).heap[b]? = some o := by subst h; exact heap_alloc_last w o
theorem drew_block {w : World} {b : Nat} {o : Obj} (h : w.heap[b]? = some o) : w.drew.heap[b]? = some o := h
theorem ks_one (ks : List (List UInt8)) : ∀ u ∈ ksCells ks, u.oneCell' = true := by
  intro u hu; obtain ⟨_, _, rfl⟩ := List.mem_map.1 hu; rfl
theorem five_oneR {w : World} {L N : Nat} {x : V} {cs : List Value} (h : VIs w L N x cs) : ∀ u ∈ cs, u.oneCell' = true := by
  obtain ⟨A, c, A', c', rfl⟩ := h.form
  intro u hu
  simp at hu; rcases hu with rfl | rfl | rfl | rfl | rfl <;> rfl
theorem Tryd.infoValR : (Tryd.prog.info? 34).map (fun i => (i.zero, i.size, i.bytes)) = some (some (.agg #[.int .i64 0, .int .i64 0, .string ⟨#[]⟩, .slice none 0 0, .slice none 0 0]), 5, 80) := by kernel_rfl
theorem Tryd.infoStrR : (Tryd.prog.info? 9).map (fun i => (i.zero, i.size, i.bytes)) = some (some (.string ⟨#[]⟩), 1, 16) := by kernel_rfl
/-- the cells of a row of values, with what each five read as -/
theorem flat_items {w : World} {L N b o : Nat} {l : List V} (h : LIs w L N l b o) : ∃ xs : List Value, xs.length = l.length * 5 ∧ (∀ j u, xs[j]? = some u → b < N ∧ w.cell? ⟨b, o + j, none⟩ = some u) ∧ (∀ u ∈ xs, u.oneCell' = true) ∧
    ∀ i (hi : i < l.length), ∃ c0 c1 c2 c3 c4, xs[i * 5]? = some c0 ∧ xs[i * 5 + 1]? = some c1 ∧ xs[i * 5 + 2]? = some c2 ∧ xs[i * 5 + 3]? = some c3 ∧ xs[i * 5 + 4]? = some c4 ∧ VIs w L N l[i] [c0, c1, c2, c3, c4] := by
  obtain ⟨xs, n1, n2, n3⟩ := h.flat
  refine ⟨xs, n1, fun j u hu => ⟨?_, n2 j u hu⟩, n3, fun i hi => ?_⟩
  · have hj := (List.getElem?_eq_some_iff.1 hu).1
    exact (h.get 0 (by omega)).2.1
  · obtain ⟨_, _, cs, ⟨c0, c1, c2, c3, c4, rfl, m0, m1, m2, m3, m4⟩, hv⟩ := h.get i hi
    have key : ∀ k c, k < 5 → w.cell? ⟨b, o + (i * 5 + k), none⟩ = some c → xs[i * 5 + k]? = some c := fun k c hk hc => by
      have hlt : i * 5 + k < xs.length := by omega
      have := n2 (i * 5 + k) xs[i * 5 + k] (List.getElem?_eq_getElem hlt)
      rw [hc] at this
      rw [List.getElem?_eq_getElem hlt]; exact this.symm
    exact ⟨c0, c1, c2, c3, c4, key 0 c0 (by decide) (by simpa using m0), key 1 c1 (by decide) (by rw [← Nat.add_assoc]; exact m1), key 2 c2 (by decide) (by rw [← Nat.add_assoc]; exact m2), key 3 c3 (by decide) (by rw [← Nat.add_assoc]; exact m3), key 4 c4 (by decide) (by rw [← Nat.add_assoc]; exact m4), hv⟩
/-- an object in a variable at p, its rows of the call's own from B on; what lies in it, lies as it lay in w, in blocks L to N -/
structure OSt (B p L N : Nat) (w wr : World) (lv kv : Value) (l : List V) (ks : List (List UInt8)) (xs : List Value) : Prop where
  var : wr.heap[p]? = some (.cells #[.int .i64 6, .int .i64 0, .string ⟨#[]⟩, lv, kv] 34 (0, 0))
  rowL : wr.ownsRow B 34 5 lv l.length xs
  rowK : wr.ownsRow B 9 1 kv ks.length (ksCells ks)
  far : lv.ownBlock ≠ some p
  elem : ∀ i (h : i < l.length), ∃ c0 c1 c2 c3 c4, xs[i * 5]? = some c0 ∧ xs[i * 5 + 1]? = some c1 ∧ xs[i * 5 + 2]? = some c2 ∧ xs[i * 5 + 3]? = some c3 ∧ xs[i * 5 + 4]? = some c4 ∧ VIs w L N l[i] [c0, c1, c2, c3, c4]
  low : Below B w wr
/-- the object as it is made -/
theorem OSt.start {B p L N : Nat} {w wr : World} {lv kv : Value} {l : List V} {ks : List (List UInt8)} {xs : List Value} (hp : B ≤ p)
    (hv : wr.heap[p]? = some (.cells #[.int .i64 0, .int .i64 0, .string ⟨#[]⟩, .slice none 0 0, .slice none 0 0] 34 (0, 0)))
    (hL : wr.ownsRow B 34 5 lv l.length xs) (hK : wr.ownsRow B 9 1 kv ks.length (ksCells ks)) (hf : lv.ownBlock ≠ some p)
    (he : ∀ i (h : i < l.length), ∃ c0 c1 c2 c3 c4, xs[i * 5]? = some c0 ∧ xs[i * 5 + 1]? = some c1 ∧ xs[i * 5 + 2]? = some c2 ∧ xs[i * 5 + 3]? = some c3 ∧ xs[i * 5 + 4]? = some c4 ∧ VIs w L N l[i] [c0, c1, c2, c3, c4]) (hb : Below B w wr) :
    OSt B p L N w (set5 wr p 0 (.int .i64 6) (.int .i64 0) (.string ⟨#[]⟩) lv kv) lv kv l ks xs := by
  refine ⟨?_, own_kept hL fun g hg => set5_there (fun e => hf (by rw [← e]; exact hg)), own_kept hK fun g hg => set5_there (fun e => own_not hK hv (by decide) (by rw [← e]; exact hg)), hf, he, hb.trans (set5_below hp)⟩
  have := set5_here (o := 0) (c0 := .int .i64 6) (c1 := .int .i64 0) (c2 := .string ⟨#[]⟩) (c3 := lv) (c4 := kv) hv
  simpa using this
/-- a key and an item more: two rows that have grown, then both stored -/
theorem OSt.grow {B p L N : Nat} {w wr wz : World} {lv kv lv' kv' : Value} {l : List V} {ks : List (List UInt8)} {xs : List Value} {c0 c1 c2 c3 c4 : Value} (h : OSt B p L N w wr lv kv l ks xs) (hp : B ≤ p) (t : List UInt8) (x : V)
    (hx : VIs w L N x [c0, c1, c2, c3, c4]) (hv : wz.heap[p]? = some (.cells #[.int .i64 6, .int .i64 0, .string ⟨#[]⟩, lv, kv] 34 (0, 0)))
    (hK : wz.ownsRow B 9 1 kv' (ks.length + 1) (ksCells ks ++ [.string ⟨t.toArray⟩])) (hL : wz.ownsRow B 34 5 lv' (l.length + 1) (xs ++ [c0, c1, c2, c3, c4])) (hf : lv'.ownBlock ≠ some p) (hb : Below B w wz) :
    OSt B p L N w ((wz.setCell ⟨p, 4, none⟩ kv').setCell ⟨p, 3, none⟩ lv') lv' kv' (l ++ [x]) (ks ++ [t]) (xs ++ [c0, c1, c2, c3, c4]) := by
  have hxl := h.rowL.1
  have hne : ∀ b, b ≠ p → ((wz.setCell ⟨p, 4, none⟩ kv').setCell ⟨p, 3, none⟩ lv').heap[b]? = wz.heap[b]? := fun b hb => by rw [set_there _ hb, set_there _ hb]
  refine ⟨?_, ?_, ?_, hf, fun i hi => ?_, ?_⟩
  · have := set_here (o := 3) (set_here (o := 4) hv kv') lv'
    simpa using this
  · rw [List.length_append, List.length_singleton]
    exact own_kept hL fun g hg => hne g (fun e => hf (by rw [← e]; exact hg))
  · rw [ksCells_snoc, List.length_append, List.length_singleton]
    exact own_kept hK fun g hg => hne g (fun e => own_not hK hv (by decide) (by rw [← e]; exact hg))
  · rcases Nat.lt_or_ge i l.length with hil | hil
    · obtain ⟨d0, d1, d2, d3, d4, e0, e1, e2, e3, e4, hv⟩ := h.elem i hil
      have hgl : (l ++ [x])[i] = l[i] := List.getElem_append_left hil
      rw [hgl]
      refine ⟨d0, d1, d2, d3, d4, ?_, ?_, ?_, ?_, ?_, hv⟩
      · rw [List.getElem?_append_left (by omega)]; exact e0
      · rw [List.getElem?_append_left (by omega)]; exact e1
      · rw [List.getElem?_append_left (by omega)]; exact e2
      · rw [List.getElem?_append_left (by omega)]; exact e3
      · rw [List.getElem?_append_left (by omega)]; exact e4
    · have hie : i = l.length := by simp at hi; omega
      subst hie
      have hgl : (l ++ [x])[l.length] = x := by simp
      rw [hgl]
      exact ⟨c0, c1, c2, c3, c4, app_at hxl _ _ _ _ _ (k := 0) (by decide), app_at hxl _ _ _ _ _ (k := 1) (by decide), app_at hxl _ _ _ _ _ (k := 2) (by decide), app_at hxl _ _ _ _ _ (k := 3) (by decide), app_at hxl _ _ _ _ _ (k := 4) (by decide), hx⟩
  · exact (hb.setCell (p := ⟨p, 4, none⟩) hp _).setCell (p := ⟨p, 3, none⟩) hp _
/-- the whole, with another block written -/
theorem OSt.done {B p L N r : Nat} {w wr wf : World} {lv kv : Value} {l : List V} {ks : List (List UInt8)} {xs : List Value} (h : OSt B p L N w wr lv kv l ks xs) (hp : B ≤ p) (hLB : L ≤ B) (hN : N ≤ B) (hr : r < B) (hrN : N ≤ r) (hl : l.length ≤ 9223372036854775807) (hk : ks.length ≤ 9223372036854775807) (hz : ∀ x ∈ ks, x.length ≤ 9223372036854775807)
    (hf : ∀ b, b ≠ r → wf.heap[b]? = wr.heap[b]?) (hs : wf.heap.size = wr.heap.size) : VIs wf L wf.heap.size (.mk 6 0 [] l ks) [.int .i64 6, .int .i64 0, .string ⟨#[]⟩, lv, kv] := by
  obtain ⟨h1, h3, h4, _, h5, h7⟩ := h
  have hcell : ∀ p : Addr, p.block ≠ r → wf.cell? p = wr.cell? p := fun p hp => World.cell?_of_block (w := wr) (hf _ hp)
  have hps := (Array.getElem?_eq_some_iff.1 h1).1
  have hBs : B ≤ wf.heap.size := by rw [hs]; omega
  obtain ⟨A, c, rfl, hA⟩ : ∃ A c, lv = .slice A l.length c ∧ (l = [] ∨ ∃ b o, A = some ⟨b, o, none⟩ ∧ LIs wf L wf.heap.size l b o) := by
    have hc := fun g => World.ownsRow.cells (g := g) h3
    rcases h3.2 with ⟨hv, h0⟩ | ⟨g, cap, cur, hv, hB, hg, _⟩
    · exact ⟨none, 0, by rw [hv, h0], .inl (List.length_eq_zero_iff.1 h0)⟩
    · refine ⟨_, _, hv, .inr ⟨g, 0, rfl, LIs.of (by omega) (by rw [hs]; exact (Array.getElem?_eq_some_iff.1 hg).1) fun i hi => ?_⟩⟩
      obtain ⟨c0, c1, c2, c3, c4, e0, e1, e2, e3, e4, hv'⟩ := h5 i hi
      have hcc : ∀ j u, xs[j]? = some u → wf.cell? ⟨g, 0 + j, none⟩ = some u := fun j u hu => by
        rw [hcell _ (by show g ≠ r; omega)]
        have := hc g (by rw [hv]; rfl) j u hu
        rwa [Addr.add_lit] at this
      refine ⟨[c0, c1, c2, c3, c4], ⟨c0, c1, c2, c3, c4, rfl, hcc _ _ e0, hcc _ _ e1, hcc _ _ e2, hcc _ _ e3, hcc _ _ e4⟩, ?_⟩
      exact ((hv'.below (h7.mono hN)).keep2 fun p hp1 hp2 => hcell p (by omega)).more (Nat.le_refl _) (by omega)
  obtain ⟨A', c', rfl, hA'⟩ : ∃ A c, kv = .slice A ks.length c ∧ (ks = [] ∨ ∃ b o, A = some ⟨b, o, none⟩ ∧ KIs wf L wf.heap.size ks b o) := by
    have hc := fun g => World.ownsRow.cells (g := g) h4
    rcases h4.2 with ⟨hv, h0⟩ | ⟨g, cap, cur, hv, hB, hg, _⟩
    · exact ⟨none, 0, by rw [hv, h0], .inl (List.length_eq_zero_iff.1 h0)⟩
    · refine ⟨_, _, hv, .inr ⟨g, 0, rfl, KIs.of (by omega) (by rw [hs]; exact (Array.getElem?_eq_some_iff.1 hg).1) fun i hi => ?_⟩⟩
      rw [hcell _ (by show g ≠ r; omega)]
      have := hc g (by rw [hv]; rfl) i (.string ⟨ks[i].toArray⟩) (by unfold ksCells; rw [List.getElem?_map, List.getElem?_eq_getElem hi]; rfl)
      rwa [Addr.add_lit] at this
  exact VIs.mk (t := []) ⟨hl, hk, by simp, hz⟩ hA' hA
end Go.Proofs.YtjgjajnpbcghmaaDoor
namespace Go.Proofs.YtjgjajnpbcghmaaDoor
open Go.RowKit
set_option linter.unusedVariables false
set_option linter.unusedSimpArgs false

set_option maxRecDepth 100000 in
set_option maxHeartbeats 4000000 in
theorem jwkOf_any (v : V) (w : World) (L N : Nat) (cs : List Value) (hf : v.fits 8 = true) (hl : v.show.length ≤ 4096) (hv : VIs w L N v cs) (hN : N ≤ w.heap.size) :
    Calls Tryd.prog 15 #[.agg cs.toArray] w fun e w' => e = .returned (.agg #[.string ⟨(jwkOf v).1.toArray⟩, .string ⟨(jwkOf v).2.toArray⟩]) ∧ Below w.heap.size w w' := by
  obtain ⟨k1, k2, k3, k4, hform⟩ := hv.form
  obtain ⟨R, hR⟩ : ∃ R, w.heap.size = R := ⟨_, rfl⟩
  obtain ⟨W2, hW2⟩ : ∃ W2, W2 = (w.alloc (.cells cs.toArray 34)).alloc (.cells #[.string ⟨#[]⟩, .string ⟨#[]⟩] 25) := ⟨_, rfl⟩
  have b2 : Below R w W2 := by rw [hW2, ← hR]; exact ((Below.refl _ _).alloc (Nat.le_refl _) _).alloc (by simp) _
  have q0 : W2.heap[R]? = some (.cells cs.toArray 34 (0, 0)) := by rw [hW2, ← hR]; exact alloc_block (heap_alloc_last w _)
  have q1 : W2.heap[R + 1]? = some (.cells #[.string ⟨#[]⟩, .string ⟨#[]⟩] 25 (0, 0)) := by
    have := heap_alloc_last (w.alloc (.cells cs.toArray 34)) (.cells #[.string ⟨#[]⟩, .string ⟨#[]⟩] 25)
    rw [hW2, ← hR]; simpa using this
  have z2 : W2.heap.size = R + 2 := by rw [hW2]; simp [hR]
  have hfd : ∀ (key : List UInt8) (W : World), Below W2.heap.size W2 W → Calls Tryd.prog 14 #[.agg cs.toArray, .string ⟨key.toArray⟩] W fun e w' => (∃ a b c d, e = .returned (.tuple #[.agg #[.int .i64 ((fieldV key v).getD V.zero).kind, .int .i64 ((fieldV key v).getD V.zero).num, .string ⟨((fieldV key v).getD V.zero).text.toArray⟩, .slice a ((fieldV key v).getD V.zero).list.length b, .slice c ((fieldV key v).getD V.zero).keys.length d], .bool (fieldV key v).isSome])) ∧ Below W.heap.size W w' := fun key W hb => by
    refine (field_any v key W L N cs (fits_slim 8 v hf) (Nat.le_trans (fits_depth hf) (by decide)) (hv.below ((b2.mono (by omega)).trans (hb.mono (by omega)))) (Nat.le_trans (by omega) hb.size)).mono fun e w' ⟨⟨ds, he, h1, _⟩, h2⟩ => ⟨?_, h2⟩
    obtain ⟨a, b, c, d, hds⟩ := h1.form
    exact ⟨a, b, c, d, by rw [he, hds]⟩
  have f1 := hfd wKid
  have f2 := hfd wK
  have t1 := fieldD_le (key := wKid) hf
  have t2 := fieldD_le (key := wK) hf
  have hK : jwkOf v = (((fieldV wKid v).getD V.zero).text, (dec ((fieldV wK v).getD V.zero).text).getD []) := rfl
  rw [hK]
  obtain ⟨u1, hu1⟩ : ∃ u, (fieldV wKid v).getD V.zero = u := ⟨_, rfl⟩
  obtain ⟨u2, hu2⟩ : ∃ u, (fieldV wK v).getD V.zero = u := ⟨_, rfl⟩
  obtain ⟨s1, hs1⟩ : ∃ s, (fieldV wKid v).isSome = s := ⟨_, rfl⟩
  obtain ⟨s2, hs2⟩ : ∃ s, (fieldV wK v).isSome = s := ⟨_, rfl⟩
  rw [hu1, hs1] at f1
  rw [hu2, hs2] at f2
  rw [hu1] at t1
  rw [hu2] at t2
  rw [hu1, hu2]
  obtain ⟨kk1, nn1, tt1, ll1, ss1⟩ := u1
  obtain ⟨kk2, nn2, tt2, ll2, ss2⟩ := u2
  simp only [V.kind, V.num, V.text, V.list, V.keys] at f1 f2 t1 t2 ⊢
  obtain ⟨n1, hn1⟩ : ∃ n, ll1.length = n := ⟨_, rfl⟩
  obtain ⟨m1, hm1⟩ : ∃ n, ss1.length = n := ⟨_, rfl⟩
  obtain ⟨n2, hn2⟩ : ∃ n, ll2.length = n := ⟨_, rfl⟩
  obtain ⟨m2, hm2⟩ : ∃ n, ss2.length = n := ⟨_, rfl⟩
  rw [hn1, hm1] at f1
  rw [hn2, hm2] at f2
  obtain ⟨T1, hT1⟩ : ∃ T : ByteArray, (⟨tt1.toArray⟩ : ByteArray) = T := ⟨_, rfl⟩
  obtain ⟨T2, hT2⟩ : ∃ T : ByteArray, (⟨tt2.toArray⟩ : ByteArray) = T := ⟨_, rfl⟩
  have hdc : ∀ W, Calls Tryd.prog 31 #[.string T2] W fun e w' => (∃ d, e = .returned (.tuple #[.string ⟨((dec tt2).getD []).toArray⟩, .int .i64 d])) ∧ Below W.heap.size W w' := fun W => by
    have hsz : T2.size = tt2.length := by rw [← hT2]; show tt2.toArray.size = _; simp
    refine (decode_says T2 (by omega) W).mono fun e w' ⟨h1, h2⟩ => ⟨?_, h2⟩
    have e2 : T2.data.toList = tt2 := by rw [← hT2]
    rcases h1 with ⟨o, ho, he⟩ | ⟨ho, he⟩
    · rw [e2] at ho; exact ⟨0, by rw [he, ho]; rfl⟩
    · rw [e2] at ho; exact ⟨2, by rw [he, ho]; rfl⟩
  obtain ⟨D2, hD2⟩ : ∃ D : ByteArray, (⟨((dec tt2).getD []).toArray⟩ : ByteArray) = D := ⟨_, rfl⟩
  rw [hT1] at f1 ⊢
  rw [hT2] at f2
  rw [hD2] at hdc ⊢
  obtain ⟨a, b, t, A, n, c, A', n', c', rfl⟩ : ∃ a b t A n c A' n' c', cs = [.int .i64 a, .int .i64 b, .string t, .slice A n c, .slice A' n' c'] := ⟨_, _, _, _, _, _, _, _, _, hform⟩
  have F1 : Hid (∀ W, Below W2.heap.size W2 W → Calls Tryd.prog 14 #[.agg #[.int .i64 a, .int .i64 b, .string t, .slice A n c, .slice A' n' c'], .string ⟨#[107, 105, 100]⟩] W fun e w' => (∃ a b c d, e = .returned (.tuple #[.agg #[.int .i64 kk1, .int .i64 nn1, .string T1, .slice a n1 b, .slice c m1 d], .bool s1])) ∧ Below W.heap.size W w') := Lib.hid f1
  have F2 : Hid (∀ W, Below W2.heap.size W2 W → Calls Tryd.prog 14 #[.agg #[.int .i64 a, .int .i64 b, .string t, .slice A n c, .slice A' n' c'], .string ⟨#[107]⟩] W fun e w' => (∃ a b c d, e = .returned (.tuple #[.agg #[.int .i64 kk2, .int .i64 nn2, .string T2, .slice a n2 b, .slice c m2 d], .bool s2])) ∧ Below W.heap.size W w') := Lib.hid f2
  obtain ⟨⟨e0, e1, e2, e3, e4⟩, -⟩ := box_of q0
  have STA : ∀ W, Below W2.heap.size W2 W → W.heap[R]? = some (.cells #[.int .i64 a, .int .i64 b, .string t, .slice A n c, .slice A' n' c'] 34 (0, 0)) ∧ W.heap[R + 1]? = some (.cells #[.string ⟨#[]⟩, .string ⟨#[]⟩] 25 (0, 0)) := fun W hb => ⟨(hb.block R (by omega)).trans q0, (hb.block (R + 1) (by omega)).trans q1⟩
  have ST := Lib.hid STA; have HD := Lib.hid hdc; have HW := Lib.hid hW2; have HR := Lib.hid hR; have B2 := Lib.hid b2; have Z2 := Lib.hid z2
  clear f1 f2 STA hdc hW2 hR b2 z2 q0 q1 hfd hform hv hf hl hu1 hu2 hs1 hs2 hn1 hn2 hm1 hm2 hT1 hT2 hD2 t1 t2 hK hN
  go_enter Tryd.func15, Tryd.ntmps15
  go_wp2_with fail
  rw [← HW.out, HR.out]
  (try go_wp2_with fail)
  refine (F1.out _ (Below.refl _ _)).mono ?_
  rintro e w3 ⟨⟨x1, x2, x3, x4, rfl⟩, hb3⟩
  have g3 := hb3.alloc hb3.size (.cells #[.int .i64 kk1, .int .i64 nn1, .string T1, .slice x1 n1 x2, .slice x3 m1 x4] 34)
  have k3 := heap_alloc_last w3 (.cells #[.int .i64 kk1, .int .i64 nn1, .string T1, .slice x1 n1 x2, .slice x3 m1 x4] 34)
  obtain ⟨⟨y0, y1, y2, y3, y4⟩, -⟩ := box_of (ST.out _ g3).1
  have G3 := Lib.hid g3; have K3 := Lib.hid k3
  clear g3 k3 e0 e1 e2 e3 e4 hb3
  dsimp only
  go_wp2_with fail
  refine (F2.out _ G3.out).mono ?_
  rintro e w4 ⟨⟨z1, z2, z3, z4, rfl⟩, hb4⟩
  have g4' := G3.out.chain hb4
  have g4 := g4'.alloc g4'.size (.cells #[.int .i64 kk2, .int .i64 nn2, .string T2, .slice z1 n2 z2, .slice z3 m2 z4] 34)
  have hs3 : (w3.alloc (.cells #[.int .i64 kk1, .int .i64 nn1, .string T1, .slice x1 n1 x2, .slice x3 m1 x4] 34)).heap.size = w3.heap.size + 1 := by simp
  have k4 := (hb4.block w3.heap.size (by omega)).trans K3.out
  have hs4 : w3.heap.size < w4.heap.size := by have := hb4.size; omega
  have k4' := alloc_block (x := .cells #[.int .i64 kk2, .int .i64 nn2, .string T2, .slice z1 n2 z2, .slice z3 m2 z4] 34) k4
  have l4 := cell_here (o := 2) (heap_alloc_last w4 (.cells #[.int .i64 kk2, .int .i64 nn2, .string T2, .slice z1 n2 z2, .slice z3 m2 z4] 34))
  have G4 := Lib.hid g4; have K4 := Lib.hid k4'
  clear g4 g4' k4 k4' hs3 hb4 y0 y1 y2 y3 y4
  dsimp only
  go_wp2_with fail
  refine (HD.out _).mono ?_
  rintro e w5 ⟨⟨d, rfl⟩, hb5⟩
  have g5 := G4.out.chain hb5
  have l5 := cell_here (o := 2) (blk_below K4.out hb5)
  have r5 := (ST.out _ g5).2
  have r0 := cell_here (o := 0) r5
  have r1 := cell_here (o := 1) r5
  have ff0 := frozen_here r5 0
  have ff1 := frozen_here r5 1
  have G5 := Lib.hid g5; have R5 := Lib.hid r5
  clear g5 r5 hb5 l4
  dsimp only
  go_wp2_with fail
  obtain ⟨wf, hwf⟩ : ∃ wf, wf = (w5.setCell ⟨R + 1, 0, none⟩ (.string T1)).setCell ⟨R + 1, 1, none⟩ (.string D2) := ⟨_, rfl⟩
  rw [← hwf]
  have hx : wf.heap[R + 1]? = some (.cells #[.string T1, .string D2] 25 (0, 0)) := by rw [hwf]; exact set_here (set_here R5.out _) _
  have hbf : Below R w wf := by
    rw [hwf]
    exact ((B2.out.trans (G5.out.mono (by have := Z2.out; omega))).setCell (p := ⟨R + 1, 0, none⟩) (by show R ≤ R + 1; omega) _).setCell (p := ⟨R + 1, 1, none⟩) (by show R ≤ R + 1; omega) _
  have x0 : wf.cell? ⟨R + 1, 0, none⟩ = some (.string T1) := cell_here hx
  have x1 : wf.cell? ⟨R + 1, 1, none⟩ = some (.string D2) := cell_here hx
  have HBF := Lib.hid hbf
  clear hwf hx hbf l5 r0 r1 ff0 ff1
  refine bodyPost_ret (v := .agg #[.string T1, .string D2]) (by simp [results, Tryd.results15, go_sem, x0, x1]) rfl ?_
  exact ⟨rfl, by rw [HR.out]; exact HBF.out⟩
end Go.Proofs.YtjgjajnpbcghmaaDoor
namespace Go.Proofs.YtjgjajnpbcghmaaDoor
open Go.RowKit

theorem hasPrefix_begins (s t : List UInt8) : Lib.hasPrefix s t = beginsB s t := by
  unfold Lib.hasPrefix beginsB
  induction t generalizing s with
  | nil => simp
  | cons c t ih =>
    cases s with
    | nil => simp
    | cons d s =>
      have := ih s
      simp only [List.isPrefixOf, List.length_cons, List.take_succ_cons]
      rw [this]
      rw [Bool.eq_iff_iff]
      simp
      intro _; exact eq_comm
theorem trimPrefix_yes {s t : List UInt8} (h : beginsB s t = true) : Lib.trimPrefix s t = s.drop t.length := by
  unfold Lib.trimPrefix; rw [hasPrefix_begins, h]; rfl
theorem trimPrefix_no {s t : List UInt8} (h : beginsB s t = false) : Lib.trimPrefix s t = s := by
  unfold Lib.trimPrefix; rw [hasPrefix_begins, h]; rfl
/-- what a \ and what is behind it stand for, and how many bytes tell it; 0: nothing -/
def escR : List UInt8 → UInt8 × Nat
  | e :: r' =>
    if e = 34 ∨ e = 92 then (e, 2)
    else match r' with
      | x :: y :: h :: l :: _ => if e = 117 ∧ x = 48 ∧ y = 48 ∧ (h = 48 ∨ h = 49) ∧ 0 ≤ hexC l then (UInt8.ofNat (16 * (h.toNat - 48) + (hexC l).toNat), 6) else (0, 0)
      | _ => (0, 0)
  | [] => (0, 0)
theorem quotC_esc (r acc : List UInt8) : quotC (92 :: r) acc = if (escR r).2 = 0 then none else quotC (r.drop ((escR r).2 - 1)) (acc ++ [(escR r).1]) := by
  conv => lhs; unfold quotC
  rw [if_neg (by decide), if_pos rfl]
  cases r with
  | nil => rfl
  | cons e r =>
    unfold escR
    simp only
    by_cases he : e = 34 ∨ e = 92
    · rw [if_pos he, if_pos he]; rfl
    · rw [if_neg he, if_neg he]
      rcases r with _ | ⟨x, _ | ⟨y, _ | ⟨h, _ | ⟨l, r⟩⟩⟩⟩
      · rfl
      · rfl
      · rfl
      · rfl
      · simp only
        by_cases hc : e = 117 ∧ x = 48 ∧ y = 48 ∧ (h = 48 ∨ h = 49) ∧ 0 ≤ hexC l
        · rw [if_pos hc, if_pos hc]; rfl
        · rw [if_neg hc, if_neg hc]; rfl
theorem escR_len (r : List UInt8) : (escR r).2 ≤ 6 ∧ (escR r).2 ≤ r.length + 1 := by
  cases r with
  | nil => simp [escR]
  | cons e r =>
    unfold escR
    by_cases he : e = 34 ∨ e = 92
    · simp only [if_pos he, List.length_cons]; omega
    · simp only [if_neg he]
      rcases r with _ | ⟨x, _ | ⟨y, _ | ⟨h, _ | ⟨l, r⟩⟩⟩⟩
      · simp
      · simp
      · simp
      · simp
      · simp only
        split
        · simp
        · simp
theorem idx01 (h : UInt8) : Lib.indexByte [48, 49] h = if h = 48 then 0 else if h = 49 then 1 else -1 := by
  have : ∀ n : Fin 256, Lib.indexByte [48, 49] (UInt8.ofNat n.val) = if UInt8.ofNat n.val = 48 then 0 else if UInt8.ofNat n.val = 49 then 1 else -1 := by decide +kernel
  have h' := this ⟨h.toNat, h.toNat_lt⟩
  simp only [UInt8.ofNat_toNat] at h'
  exact h'
theorem idx16 (l : UInt8) : Lib.indexByte [48, 49, 50, 51, 52, 53, 54, 55, 56, 57, 97, 98, 99, 100, 101, 102] l = hexC l := by
  have : ∀ n : Fin 256, Lib.indexByte [48, 49, 50, 51, 52, 53, 54, 55, 56, 57, 97, 98, 99, 100, 101, 102] (UInt8.ofNat n.val) = hexC (UInt8.ofNat n.val) := by decide +kernel
  have h' := this ⟨l.toNat, l.toNat_lt⟩
  simp only [UInt8.ofNat_toNat] at h'
  exact h'
theorem or0 (m : Nat) (h : m < 16) : bits .or .i64 0 (m : Int) = m := by
  have : ∀ n : Fin 16, bits .or .i64 0 (n.val : Int) = n.val := by decide +kernel
  exact this ⟨m, h⟩
theorem or16 (m : Nat) (h : m < 16) : bits .or .i64 16 (m : Int) = 16 + m := by
  have : ∀ n : Fin 16, bits .or .i64 16 (n.val : Int) = 16 + n.val := by decide +kernel
  exact this ⟨m, h⟩
theorem Tryd.slice01 (w : World) : (Instr.slice 9 (.string ⟨#[48, 49, 50, 51, 52, 53, 54, 55, 56, 57, 97, 98, 99, 100, 101, 102]⟩) none (some (.int .i64 2)) none).run Tryd.prog w = .ok (.string ⟨#[48, 49]⟩) w := by kernel_rfl
set_option maxRecDepth 100000 in
set_option maxHeartbeats 2000000 in
theorem escaped_any (s : ByteArray) (r : List UInt8) (hs : s.data.toList = 92 :: r) (hsz : s.size ≤ 1000000) (w : World) :
    Calls Tryd.prog 57 #[.string s] w fun e w' => e = .returned (.tuple #[.int .u8 (escR r).1.toNat, .int .i64 (escR r).2]) ∧ ∃ q, w' = w.drewN q := by
  have hsl : s.data.toList.length = s.size := rfl
  have hlen : s.size = r.length + 1 := by rw [← hsl, hs]; rfl
  have hcp := fun w => Tryd.strings_CutPrefix s ⟨#[92, 117, 48, 48]⟩ w
  obtain ⟨ER, hER⟩ : ∃ ER, escR r = ER := ⟨_, rfl⟩
  rw [hER]
  cases r with
  | nil =>
    have e0 : ER = (0, 0) := hER.symm.trans rfl
    have hb : beginsB (92 :: []) [92, 117, 48, 48] = false := rfl
    rw [hs] at hcp
    rw [trimPrefix_no hb, hasPrefix_begins, hb] at hcp
    have t1 : s.size = 1 := hlen
    subst e0
    have HCP := Lib.hid hcp; clear hcp hs hsl hlen hER
    go_enter Tryd.func57, Tryd.ntmps57
    go_wp2_with (go_at_call 58; refine (HCP.out _).mono ?_; rintro e1 w1 ⟨rfl, rfl⟩)
    go_ret2
    exact ⟨rfl, 0, rfl⟩
  | cons e r =>
    have h1 : 1 < s.size := by rw [hlen]; simp
    have g1 : s[1] = e := by
      have : s.data.toList[1]'(by rw [hs]; simp) = e := by simp only [hs]; rfl
      exact this
    have t1 : decide ((2 : Int) ≤ (s.size : Int)) = true := by simp; omega
    by_cases he : e = 34 ∨ e = 92
    · have e0 : ER = (e, 2) := hER.symm.trans (by unfold escR; dsimp only; rw [if_pos he])
      subst e0
      by_cases h34 : e = 34
      · have t2 : ((s[1].toNat : Int) == 34) = true := by rw [g1, h34]; rfl
        have G1 := Lib.hid g1; have E34 := Lib.hid h34
        clear hs hsl hlen hER hcp g1 he h34
        go_enter Tryd.func57, Tryd.ntmps57
        go_wp2
        go_ret2
        exact ⟨by rw [G1.out]; rfl, 0, rfl⟩
      · have h92 : e = 92 := by rcases he with h | h; exact absurd h h34; exact h
        have t2 : ((s[1].toNat : Int) == 34) = false := by rw [g1, h92]; rfl
        have t3 : ((s[1].toNat : Int) == 92) = true := by rw [g1, h92]; rfl
        have G1 := Lib.hid g1; have E92 := Lib.hid h92
        clear hs hsl hlen hER hcp g1 he h34 h92
        go_enter Tryd.func57, Tryd.ntmps57
        go_wp2
        go_ret2
        exact ⟨by rw [G1.out]; rfl, 0, rfl⟩
    · have n34 : e.toNat ≠ 34 := fun h => he (.inl (UInt8.toNat_inj.1 h))
      have n92 : e.toNat ≠ 92 := fun h => he (.inr (UInt8.toNat_inj.1 h))
      have t2 : ((s[1].toNat : Int) == 34) = false := by rw [g1]; simp; omega
      have t3 : ((s[1].toNat : Int) == 92) = false := by rw [g1]; simp; omega
      rw [hs] at hcp
      by_cases hb : beginsB (92 :: e :: r) [92, 117, 48, 48] = true
      · rw [trimPrefix_yes hb, hasPrefix_begins, hb] at hcp
        obtain ⟨rfl, r, rfl⟩ : e = 117 ∧ ∃ r', r = 48 :: 48 :: r' := by
          have := begins_full hb
          simp only [List.cons_append, List.nil_append, List.cons.injEq, true_and] at this
          exact ⟨this.1, _, this.2⟩
        have hcp2 : ∀ w : World, Calls Tryd.prog 58 #[.string s, .string ⟨#[92, 117, 48, 48]⟩] w fun e w' => e = .returned (.tuple #[.string ⟨r.toArray⟩, .bool true]) ∧ w' = w := hcp
        clear hcp
        have hr5 : s.size = r.length + 4 := by rw [hlen]; simp
        have hts : (⟨r.toArray⟩ : ByteArray).size = r.length := by show r.toArray.size = _; simp
        have htl : (⟨r.toArray⟩ : ByteArray).data.toList = r := by simp
        obtain ⟨two, htwo⟩ : ∃ two : ByteArray, two = ⟨r.toArray⟩ := ⟨_, rfl⟩
        rw [← htwo] at hcp2 hts htl
        by_cases hl2 : r.length < 2
        · have e0 : ER = (0, 0) := hER.symm.trans (by
            unfold escR
            dsimp only
            rw [if_neg (by decide)]
            rcases r with _ | ⟨x, _ | ⟨y, r⟩⟩
            · rfl
            · rfl
            · simp at hl2; omega)
          subst e0
          have t5 : decide ((two.size : Int) < 2) = true := by simp; omega
          have HCP := Lib.hid hcp2; clear hcp2 hs hsl hlen hER g1 he hb n34 n92 htwo htl
          go_enter Tryd.func57, Tryd.ntmps57
          go_wp2_with (go_at_call 58; refine (HCP.out _).mono ?_; rintro e1 w1 ⟨rfl, rfl⟩)
          go_ret2
          exact ⟨rfl, 0, rfl⟩
        · obtain ⟨h, l, r, rfl⟩ : ∃ h l r', r = h :: l :: r' := by
            rcases r with _ | ⟨x, _ | ⟨y, r⟩⟩
            · simp at hl2
            · simp at hl2
            · exact ⟨x, y, r, rfl⟩
          have t5 : decide ((two.size : Int) < 2) = false := by simp; omega
          have k0 : 0 < two.size := by omega
          have k1 : 1 < two.size := by omega
          have y0 : two[0] = h := by
            have : two.data.toList[0]'(by rw [htl]; simp) = h := by simp only [htl]; rfl
            exact this
          have y1 : two[1] = l := by
            have : two.data.toList[1]'(by rw [htl]; simp) = l := by simp only [htl]; rfl
            exact this
          have i0 := fun w => Tryd.strings_IndexByte ⟨#[48, 49]⟩ (two[0].toNat : Int) w
          have i1 := fun w => Tryd.strings_IndexByte ⟨#[48, 49, 50, 51, 52, 53, 54, 55, 56, 57, 97, 98, 99, 100, 101, 102]⟩ (two[1].toNat : Int) w
          have I0 : ∀ w, Calls Tryd.prog 50 #[.string ⟨#[48, 49]⟩, .int .u8 (two[0].toNat : Int)] w fun e w' => e = .returned (.int .i64 (if h = 48 then 0 else if h = 49 then 1 else -1)) ∧ w' = w := fun w => (i0 w).mono fun e w' ⟨h1, h2⟩ => ⟨by
            rw [h1, y0]
            have : ((h.toNat : Int)).toNat.toUInt8 = h := by simp
            rw [this]; exact congrArg (fun x => Ending.returned (.int .i64 x)) (idx01 h), h2⟩
          have I1 : ∀ w, Calls Tryd.prog 50 #[.string ⟨#[48, 49, 50, 51, 52, 53, 54, 55, 56, 57, 97, 98, 99, 100, 101, 102]⟩, .int .u8 (two[1].toNat : Int)] w fun e w' => e = .returned (.int .i64 (hexC l)) ∧ w' = w := fun w => (i1 w).mono fun e w' ⟨h1, h2⟩ => ⟨by
            rw [h1, y1]
            have : ((l.toNat : Int)).toNat.toUInt8 = l := by simp
            rw [this]; exact congrArg (fun x => Ending.returned (.int .i64 x)) (idx16 l), h2⟩
          clear i0 i1
          have hER2 : ER = if (h = 48 ∨ h = 49) ∧ 0 ≤ hexC l then (UInt8.ofNat (16 * (h.toNat - 48) + (hexC l).toNat), 6) else (0, 0) := hER.symm.trans (by
            unfold escR
            dsimp only
            rw [if_neg (by decide)]
            simp only [true_and])
          have HER := Lib.hid hER2
          obtain ⟨p, hp⟩ : ∃ p : Int, (if h = 48 then 0 else if h = 49 then 1 else -1) = p := ⟨_, rfl⟩
          obtain ⟨q, hq⟩ : ∃ q : Int, hexC l = q := ⟨_, rfl⟩
          rw [hp] at I0; rw [hq] at I1
          have HP := Lib.hid hp; have HQ := Lib.hid hq; have HI0 := Lib.hid I0; have HI1 := Lib.hid I1; have HCP := Lib.hid hcp2
          have h46 : s.size = two.size + 4 := by rw [hr5, hts]
          have hw6 : (s.size : Int) - two.size + 2 = 6 := by omega
          have hw4 : (s.size : Int) - two.size = 4 := by omega
          clear hr5 hts h46 hl2
          clear hcp2 hs hsl hlen hER g1 he hb n34 n92 htwo htl hER2 hp hq I0 I1 y0 y1
          have hsl01 := Tryd.slice01
          have hx0 : ∀ W, (Instr.index 9 (.string two) (.int .i64 0)).run Tryd.prog W = .ok (.int .u8 (two[0].toNat : Int)) W := fun W => by
            have := run_index_string (P := Tryd.prog) (w := W) 9 two .i64 0 Tryd.underlying9
            rw [this, dif_pos ⟨by decide, by omega⟩]; rfl
          have hx1 : ∀ W, (Instr.index 9 (.string two) (.int .i64 1)).run Tryd.prog W = .ok (.int .u8 (two[1].toNat : Int)) W := fun W => by
            have := run_index_string (P := Tryd.prog) (w := W) 9 two .i64 1 Tryd.underlying9
            rw [this, dif_pos ⟨by decide, by omega⟩]; rfl
          by_cases h01 : h = 48 ∨ h = 49
          · by_cases hq0 : 0 ≤ hexC l
            · have hq16 := (hexC_is l hq0).2
              have e0 : ER = (UInt8.ofNat (16 * (h.toNat - 48) + (hexC l).toNat), 6) := HER.out.trans (if_pos ⟨h01, hq0⟩)
              rw [HQ.out] at e0 hq0 hq16
              obtain ⟨m, rfl⟩ : ∃ m : Nat, q = m := ⟨q.toNat, by omega⟩
              have hm : m < 16 := by omega
              have q0 : decide ((m : Int) < 0) = false := by simp
              have ho0 : bits .or .i64 0 (m : Int) = m := or0 m hm
              have ho1 : bits .or .i64 16 (m : Int) = 16 + m := or16 m hm
              have hcv0 : IntKind.u8.wrap (m : Int) = m := by rw [IntKind.wrap_u8]; omega
              have hcv1 : IntKind.u8.wrap (16 + m : Int) = 16 + m := by rw [IntKind.wrap_u8]; omega
              rcases h01 with rfl | rfl
              · obtain rfl : p = 0 := HP.out.symm.trans rfl
                subst e0
                have hb : ((UInt8.ofNat (16 * ((48 : UInt8).toNat - 48) + (m : Int).toNat)).toNat : Int) = m := by
                  rw [UInt8.toNat_ofNat']; have : (48 : UInt8).toNat = 48 := rfl; omega
                have HB := Lib.hid hb; clear hb
                go_enter Tryd.func57, Tryd.ntmps57
                go_wp2_with (go_at_call 58; refine (HCP.out _).mono ?_; rintro e1 w1 ⟨rfl, rfl⟩)
                go_quiet (first | (go_at_call 50; exact Calls.quiet_of_same (HI0.out _)) | (go_at_call 50; exact Calls.quiet_of_same (HI1.out _)))
                go_wp2
                go_ret2
                exact ⟨congrArg (fun x => Ending.returned (.tuple #[.int .u8 x, .int .i64 6])) HB.out.symm, _, rfl⟩
              · obtain rfl : p = 1 := HP.out.symm.trans rfl
                subst e0
                have hb : ((UInt8.ofNat (16 * ((49 : UInt8).toNat - 48) + (m : Int).toNat)).toNat : Int) = 16 + m := by
                  rw [UInt8.toNat_ofNat']; have : (49 : UInt8).toNat = 49 := rfl; omega
                have HB := Lib.hid hb; clear hb
                go_enter Tryd.func57, Tryd.ntmps57
                go_wp2_with (go_at_call 58; refine (HCP.out _).mono ?_; rintro e1 w1 ⟨rfl, rfl⟩)
                go_quiet (first | (go_at_call 50; exact Calls.quiet_of_same (HI0.out _)) | (go_at_call 50; exact Calls.quiet_of_same (HI1.out _)))
                go_wp2
                go_ret2
                exact ⟨congrArg (fun x => Ending.returned (.tuple #[.int .u8 x, .int .i64 6])) HB.out.symm, _, rfl⟩
            · have e0 : ER = (0, 0) := HER.out.trans (if_neg (fun h => hq0 h.2))
              have q0 : decide (q < 0) = true := by rw [HQ.out] at hq0; simp; omega
              subst e0
              rcases h01 with rfl | rfl
              · obtain rfl : p = 0 := HP.out.symm.trans rfl
                go_enter Tryd.func57, Tryd.ntmps57
                go_wp2_with (go_at_call 58; refine (HCP.out _).mono ?_; rintro e1 w1 ⟨rfl, rfl⟩)
                go_quiet (first | (go_at_call 50; exact Calls.quiet_of_same (HI0.out _)) | (go_at_call 50; exact Calls.quiet_of_same (HI1.out _)))
                go_wp2
                go_ret2
                exact ⟨rfl, _, rfl⟩
              · obtain rfl : p = 1 := HP.out.symm.trans rfl
                go_enter Tryd.func57, Tryd.ntmps57
                go_wp2_with (go_at_call 58; refine (HCP.out _).mono ?_; rintro e1 w1 ⟨rfl, rfl⟩)
                go_quiet (first | (go_at_call 50; exact Calls.quiet_of_same (HI0.out _)) | (go_at_call 50; exact Calls.quiet_of_same (HI1.out _)))
                go_wp2
                go_ret2
                exact ⟨rfl, _, rfl⟩
          · have e0 : ER = (0, 0) := HER.out.trans (if_neg (fun h => h01 h.1))
            obtain rfl : p = -1 := HP.out.symm.trans (by rw [if_neg (fun h => h01 (.inl h)), if_neg (fun h => h01 (.inr h))])
            subst e0
            go_enter Tryd.func57, Tryd.ntmps57
            go_wp2_with (go_at_call 58; refine (HCP.out _).mono ?_; rintro e1 w1 ⟨rfl, rfl⟩)
            go_quiet (first | (go_at_call 50; exact Calls.quiet_of_same (HI0.out _)) | (go_at_call 50; exact Calls.quiet_of_same (HI1.out _)))
            go_wp2
            go_ret2
            exact ⟨rfl, _, rfl⟩
      · have hb' : beginsB (92 :: e :: r) [92, 117, 48, 48] = false := by simpa using hb
        rw [trimPrefix_no hb', hasPrefix_begins, hb'] at hcp
        have e0 : ER = (0, 0) := hER.symm.trans (by
          unfold escR
          dsimp only
          rw [if_neg he]
          rcases r with _ | ⟨x, _ | ⟨y, _ | ⟨h, _ | ⟨l, r⟩⟩⟩⟩
          · rfl
          · rfl
          · rfl
          · rfl
          · refine if_neg ?_
            rintro ⟨rfl, rfl, rfl, _⟩
            exact hb (by simp [beginsB]))
        subst e0
        have HCP := Lib.hid hcp; clear hcp hs hsl hlen hER g1 he hb hb' n34 n92
        go_enter Tryd.func57, Tryd.ntmps57
        go_wp2_with (go_at_call 58; refine (HCP.out _).mono ?_; rintro e1 w1 ⟨rfl, rfl⟩)
        go_ret2
        exact ⟨rfl, 0, rfl⟩
end Go.Proofs.YtjgjajnpbcghmaaDoor
