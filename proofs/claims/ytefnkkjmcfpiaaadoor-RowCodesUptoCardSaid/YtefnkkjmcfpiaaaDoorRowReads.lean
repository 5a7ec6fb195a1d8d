/- Layer 13, the landed code: ReadSession, ReadCode. Written by wip/gen/greads13.py. -/
import Derived.Test.YtefnkkjmcfpiaaaDoorRowFill
import Derived.Test.YtefnkkjmcfpiaaaDoorRowVals
import Derived.Test.YtefnkkjmcfpiaaaDoorHeldMore
namespace Go.Proofs.YtefnkkjmcfpiaaaDoor
open Go.RowKit
set_option linter.unusedVariables false
set_option linter.unusedSimpArgs false

theorem results_cell_one {P : Program} {fn : Func} {p u : Tmp} {ty : TypeId} (h : fn.results = #[.cell p ty, .tmp u]) (tmps : Array Value) (w : World) (a : Addr) (v : Value) (hp : tmps.getD p undef = .pointer (some a)) (hl : (loadVar ty a).run P w = .ok v w) :
    (results fn tmps).run P w = .ok (.tuple #[v, tmps.getD u undef]) w := by
  have ha : (asAddr (.pointer (some a))).run P w = .ok a w := rfl
  simp only [results, h]
  simp only [Array.getD_eq_getD_getElem?] at hp
  simp [Sem.run_bind, Result.andThen, hp, ha, hl]
theorem textsL_mem {l : List (List UInt8)} {t : List UInt8} (h : t ∈ l) : t.length ≤ (textsL l).length := by
  have h1 := textsL_len l
  have h2 : t.length ≤ (l.map List.length).sum := by
    clear h1
    induction l with
    | nil => cases h
    | cons a l ih =>
      rw [List.map_cons, List.sum_cons]
      rcases List.mem_cons.1 h with rfl | h
      · omega
      · have := ih h
        omega
  omega
/-- what a reader holds: its result's cells, its struct's, and texts of one cell each -/
structure Mem13 (w W : World) (t : TypeId) (Z X : Array Value) (bs : List (Nat × ByteArray)) : Prop where
  low : Below w.heap.size w W
  res : W.heap[w.heap.size]? = some (.cells Z t)
  var : W.heap[w.heap.size + 1]? = some (.cells X t)
  strs : ∀ p ∈ bs, W.heap[p.1]? = some (.cells #[.string p.2] 9)
  apart : ∀ p ∈ bs, w.heap.size + 1 < p.1
theorem Mem13.later {w W W' : World} {t : TypeId} {Z X : Array Value} {bs : List (Nat × ByteArray)} (h : Mem13 w W t Z X bs) (hb : Below W.heap.size W W') : Mem13 w W' t Z X bs :=
  ⟨h.low.chain hb, blk_below h.res hb, blk_below h.var hb, fun p hp => blk_below (h.strs p hp) hb, h.apart⟩
theorem Mem13.set {w W : World} {t : TypeId} {Z X : Array Value} {bs : List (Nat × ByteArray)} (h : Mem13 w W t Z X bs) (o : Nat) (v : Value) : Mem13 w (W.setCell ⟨w.heap.size + 1, o, none⟩ v) t Z (X.setIfInBounds o v) bs :=
  ⟨h.low.setCell (p := ⟨w.heap.size + 1, o, none⟩) (show w.heap.size ≤ w.heap.size + 1 by omega) v, (set_there v (by omega)).trans h.res, set_here h.var v, fun p hp => (set_there v (by have := h.apart p hp; omega)).trans (h.strs p hp), h.apart⟩
theorem cells12_of {w : World} {b : Nat} {c0 c1 c2 c3 c4 c5 c6 c7 c8 c9 c10 c11 : Value} {t : TypeId} (h : w.heap[b]? = some (.cells #[c0, c1, c2, c3, c4, c5, c6, c7, c8, c9, c10, c11] t)) :
    (w.cell? ⟨b, 0, none⟩ = some c0 ∧ w.cell? ⟨b, 1, none⟩ = some c1 ∧ w.cell? ⟨b, 2, none⟩ = some c2 ∧ w.cell? ⟨b, 3, none⟩ = some c3 ∧ w.cell? ⟨b, 4, none⟩ = some c4 ∧ w.cell? ⟨b, 5, none⟩ = some c5 ∧ w.cell? ⟨b, 6, none⟩ = some c6 ∧ w.cell? ⟨b, 7, none⟩ = some c7 ∧ w.cell? ⟨b, 8, none⟩ = some c8 ∧ w.cell? ⟨b, 9, none⟩ = some c9 ∧ w.cell? ⟨b, 10, none⟩ = some c10 ∧ w.cell? ⟨b, 11, none⟩ = some c11) ∧ w.frozen? ⟨b, 0, none⟩ = false ∧ w.frozen? ⟨b, 1, none⟩ = false ∧ w.frozen? ⟨b, 2, none⟩ = false ∧ w.frozen? ⟨b, 3, none⟩ = false ∧ w.frozen? ⟨b, 4, none⟩ = false ∧ w.frozen? ⟨b, 5, none⟩ = false ∧ w.frozen? ⟨b, 6, none⟩ = false ∧ w.frozen? ⟨b, 7, none⟩ = false ∧ w.frozen? ⟨b, 8, none⟩ = false ∧ w.frozen? ⟨b, 9, none⟩ = false ∧ w.frozen? ⟨b, 10, none⟩ = false ∧ w.frozen? ⟨b, 11, none⟩ = false :=
  ⟨⟨cell_here h, cell_here h, cell_here h, cell_here h, cell_here h, cell_here h, cell_here h, cell_here h, cell_here h, cell_here h, cell_here h, cell_here h⟩, frozen_here h _, frozen_here h _, frozen_here h _, frozen_here h _, frozen_here h _, frozen_here h _, frozen_here h _, frozen_here h _, frozen_here h _, frozen_here h _, frozen_here h _, frozen_here h _⟩
def set12 (w : World) (b : Nat) (c0 c1 c2 c3 c4 c5 c6 c7 c8 c9 c10 c11 : Value) : World := (((((((((((w.setCell ⟨b, 0, none⟩ c0).setCell ⟨b, 1, none⟩ c1).setCell ⟨b, 2, none⟩ c2).setCell ⟨b, 3, none⟩ c3).setCell ⟨b, 4, none⟩ c4).setCell ⟨b, 5, none⟩ c5).setCell ⟨b, 6, none⟩ c6).setCell ⟨b, 7, none⟩ c7).setCell ⟨b, 8, none⟩ c8).setCell ⟨b, 9, none⟩ c9).setCell ⟨b, 10, none⟩ c10).setCell ⟨b, 11, none⟩ c11
theorem set12_here {w : World} {b : Nat} {c0 c1 c2 c3 c4 c5 c6 c7 c8 c9 c10 c11 x0 x1 x2 x3 x4 x5 x6 x7 x8 x9 x10 x11 : Value} {t : TypeId} {fr : Nat × Nat} (h : w.heap[b]? = some (.cells #[x0, x1, x2, x3, x4, x5, x6, x7, x8, x9, x10, x11] t fr)) : (set12 w b c0 c1 c2 c3 c4 c5 c6 c7 c8 c9 c10 c11).heap[b]? = some (.cells #[c0, c1, c2, c3, c4, c5, c6, c7, c8, c9, c10, c11] t fr) := by
  have := set_here (o := 11) (set_here (o := 10) (set_here (o := 9) (set_here (o := 8) (set_here (o := 7) (set_here (o := 6) (set_here (o := 5) (set_here (o := 4) (set_here (o := 3) (set_here (o := 2) (set_here (o := 1) (set_here (o := 0) h c0) c1) c2) c3) c4) c5) c6) c7) c8) c9) c10) c11
  unfold set12
  simpa using this
theorem set12_below {w w' : World} {b B : Nat} (h : Below B w w') (hb : B ≤ b) (c0 c1 c2 c3 c4 c5 c6 c7 c8 c9 c10 c11 : Value) : Below B w (set12 w' b c0 c1 c2 c3 c4 c5 c6 c7 c8 c9 c10 c11) := by
  unfold set12
  exact (((((((((((h.setCell (p := ⟨b, 0, none⟩) hb c0).setCell (p := ⟨b, 1, none⟩) hb c1).setCell (p := ⟨b, 2, none⟩) hb c2).setCell (p := ⟨b, 3, none⟩) hb c3).setCell (p := ⟨b, 4, none⟩) hb c4).setCell (p := ⟨b, 5, none⟩) hb c5).setCell (p := ⟨b, 6, none⟩) hb c6).setCell (p := ⟨b, 7, none⟩) hb c7).setCell (p := ⟨b, 8, none⟩) hb c8).setCell (p := ⟨b, 9, none⟩) hb c9).setCell (p := ⟨b, 10, none⟩) hb c10).setCell (p := ⟨b, 11, none⟩) hb c11
theorem cells13_of {w : World} {b : Nat} {c0 c1 c2 c3 c4 c5 c6 c7 c8 c9 c10 c11 c12 : Value} {t : TypeId} (h : w.heap[b]? = some (.cells #[c0, c1, c2, c3, c4, c5, c6, c7, c8, c9, c10, c11, c12] t)) :
    (w.cell? ⟨b, 0, none⟩ = some c0 ∧ w.cell? ⟨b, 1, none⟩ = some c1 ∧ w.cell? ⟨b, 2, none⟩ = some c2 ∧ w.cell? ⟨b, 3, none⟩ = some c3 ∧ w.cell? ⟨b, 4, none⟩ = some c4 ∧ w.cell? ⟨b, 5, none⟩ = some c5 ∧ w.cell? ⟨b, 6, none⟩ = some c6 ∧ w.cell? ⟨b, 7, none⟩ = some c7 ∧ w.cell? ⟨b, 8, none⟩ = some c8 ∧ w.cell? ⟨b, 9, none⟩ = some c9 ∧ w.cell? ⟨b, 10, none⟩ = some c10 ∧ w.cell? ⟨b, 11, none⟩ = some c11 ∧ w.cell? ⟨b, 12, none⟩ = some c12) ∧ w.frozen? ⟨b, 0, none⟩ = false ∧ w.frozen? ⟨b, 1, none⟩ = false ∧ w.frozen? ⟨b, 2, none⟩ = false ∧ w.frozen? ⟨b, 3, none⟩ = false ∧ w.frozen? ⟨b, 4, none⟩ = false ∧ w.frozen? ⟨b, 5, none⟩ = false ∧ w.frozen? ⟨b, 6, none⟩ = false ∧ w.frozen? ⟨b, 7, none⟩ = false ∧ w.frozen? ⟨b, 8, none⟩ = false ∧ w.frozen? ⟨b, 9, none⟩ = false ∧ w.frozen? ⟨b, 10, none⟩ = false ∧ w.frozen? ⟨b, 11, none⟩ = false ∧ w.frozen? ⟨b, 12, none⟩ = false :=
  ⟨⟨cell_here h, cell_here h, cell_here h, cell_here h, cell_here h, cell_here h, cell_here h, cell_here h, cell_here h, cell_here h, cell_here h, cell_here h, cell_here h⟩, frozen_here h _, frozen_here h _, frozen_here h _, frozen_here h _, frozen_here h _, frozen_here h _, frozen_here h _, frozen_here h _, frozen_here h _, frozen_here h _, frozen_here h _, frozen_here h _, frozen_here h _⟩
def set13 (w : World) (b : Nat) (c0 c1 c2 c3 c4 c5 c6 c7 c8 c9 c10 c11 c12 : Value) : World := ((((((((((((w.setCell ⟨b, 0, none⟩ c0).setCell ⟨b, 1, none⟩ c1).setCell ⟨b, 2, none⟩ c2).setCell ⟨b, 3, none⟩ c3).setCell ⟨b, 4, none⟩ c4).setCell ⟨b, 5, none⟩ c5).setCell ⟨b, 6, none⟩ c6).setCell ⟨b, 7, none⟩ c7).setCell ⟨b, 8, none⟩ c8).setCell ⟨b, 9, none⟩ c9).setCell ⟨b, 10, none⟩ c10).setCell ⟨b, 11, none⟩ c11).setCell ⟨b, 12, none⟩ c12
theorem set13_here {w : World} {b : Nat} {c0 c1 c2 c3 c4 c5 c6 c7 c8 c9 c10 c11 c12 x0 x1 x2 x3 x4 x5 x6 x7 x8 x9 x10 x11 x12 : Value} {t : TypeId} {fr : Nat × Nat} (h : w.heap[b]? = some (.cells #[x0, x1, x2, x3, x4, x5, x6, x7, x8, x9, x10, x11, x12] t fr)) : (set13 w b c0 c1 c2 c3 c4 c5 c6 c7 c8 c9 c10 c11 c12).heap[b]? = some (.cells #[c0, c1, c2, c3, c4, c5, c6, c7, c8, c9, c10, c11, c12] t fr) := by
  have := set_here (o := 12) (set_here (o := 11) (set_here (o := 10) (set_here (o := 9) (set_here (o := 8) (set_here (o := 7) (set_here (o := 6) (set_here (o := 5) (set_here (o := 4) (set_here (o := 3) (set_here (o := 2) (set_here (o := 1) (set_here (o := 0) h c0) c1) c2) c3) c4) c5) c6) c7) c8) c9) c10) c11) c12
  unfold set13
  simpa using this
theorem set13_below {w w' : World} {b B : Nat} (h : Below B w w') (hb : B ≤ b) (c0 c1 c2 c3 c4 c5 c6 c7 c8 c9 c10 c11 c12 : Value) : Below B w (set13 w' b c0 c1 c2 c3 c4 c5 c6 c7 c8 c9 c10 c11 c12) := by
  unfold set13
  exact ((((((((((((h.setCell (p := ⟨b, 0, none⟩) hb c0).setCell (p := ⟨b, 1, none⟩) hb c1).setCell (p := ⟨b, 2, none⟩) hb c2).setCell (p := ⟨b, 3, none⟩) hb c3).setCell (p := ⟨b, 4, none⟩) hb c4).setCell (p := ⟨b, 5, none⟩) hb c5).setCell (p := ⟨b, 6, none⟩) hb c6).setCell (p := ⟨b, 7, none⟩) hb c7).setCell (p := ⟨b, 8, none⟩) hb c8).setCell (p := ⟨b, 9, none⟩) hb c9).setCell (p := ⟨b, 10, none⟩) hb c10).setCell (p := ⟨b, 11, none⟩) hb c11).setCell (p := ⟨b, 12, none⟩) hb c12
/-- what ReadSession's fill leaves -/
def FillSess (w : World) (L : List UInt8) (e : Ending) (w' : World) : Prop :=
  (∃ (t0 t1 t2 t3 t4 t5 t6 t7 t8 t9 t10 t11 : List UInt8) (T0 T1 T2 T3 T4 T5 T6 T7 T8 T9 T10 T11 : ByteArray) (rest : List (List UInt8)) (PA : Option Addr) (c : Nat), (T0 = ⟨t0.toArray⟩ ∧ T1 = ⟨t1.toArray⟩ ∧ T2 = ⟨t2.toArray⟩ ∧ T3 = ⟨t3.toArray⟩ ∧ T4 = ⟨t4.toArray⟩ ∧ T5 = ⟨t5.toArray⟩ ∧ T6 = ⟨t6.toArray⟩ ∧ T7 = ⟨t7.toArray⟩ ∧ T8 = ⟨t8.toArray⟩ ∧ T9 = ⟨t9.toArray⟩ ∧ T10 = ⟨t10.toArray⟩ ∧ T11 = ⟨t11.toArray⟩) ∧ L = textsL ([t0, t1, t2, t3, t4, t5, t6, t7, t8, t9, t10, t11] ++ rest) ∧ e = .returned (.tuple #[.slice PA rest.length c, .bool true]) ∧ Mem13 w w' 35 #[.string ⟨#[]⟩, .string ⟨#[]⟩, .string ⟨#[]⟩, .string ⟨#[]⟩, .string ⟨#[]⟩, .string ⟨#[]⟩, .string ⟨#[]⟩, .int .i64 0, .string ⟨#[]⟩, .string ⟨#[]⟩, .string ⟨#[]⟩, .int .i64 0] #[.string T0, .string T1, .string T2, .string T3, .string T4, .string T5, .string T6, .int .i64 0, .string T8, .string T9, .string T10, .int .i64 0] [(w.heap.size + 1 + 1, T7), (w.heap.size + 1 + 1 + 1, T11)]) ∨
  ((∀ l, L = textsL l → l.length < 12) ∧ e = .returned (.tuple #[.slice none 0 0, .bool false]) ∧ Mem13 w w' 35 #[.string ⟨#[]⟩, .string ⟨#[]⟩, .string ⟨#[]⟩, .string ⟨#[]⟩, .string ⟨#[]⟩, .string ⟨#[]⟩, .string ⟨#[]⟩, .int .i64 0, .string ⟨#[]⟩, .string ⟨#[]⟩, .string ⟨#[]⟩, .int .i64 0] #[.string ⟨#[]⟩, .string ⟨#[]⟩, .string ⟨#[]⟩, .string ⟨#[]⟩, .string ⟨#[]⟩, .string ⟨#[]⟩, .string ⟨#[]⟩, .int .i64 0, .string ⟨#[]⟩, .string ⟨#[]⟩, .string ⟨#[]⟩, .int .i64 0] [])
set_option maxRecDepth 100000 in
set_option maxHeartbeats 4000000 in
theorem fillSess_any (s : ByteArray) (hs : s.size ≤ 1000000) (w : World) (hk : KitIn w.heap.size w) :
    Calls Tryd.prog 34 #[.string s, .slice (some ⟨w.heap.size + 1 + 1 + 1 + 1, 0, none⟩) 12 12] (((((w.alloc (.cells #[.string ⟨#[]⟩, .string ⟨#[]⟩, .string ⟨#[]⟩, .string ⟨#[]⟩, .string ⟨#[]⟩, .string ⟨#[]⟩, .string ⟨#[]⟩, .int .i64 0, .string ⟨#[]⟩, .string ⟨#[]⟩, .string ⟨#[]⟩, .int .i64 0] 35)).alloc (.cells #[.string ⟨#[]⟩, .string ⟨#[]⟩, .string ⟨#[]⟩, .string ⟨#[]⟩, .string ⟨#[]⟩, .string ⟨#[]⟩, .string ⟨#[]⟩, .int .i64 0, .string ⟨#[]⟩, .string ⟨#[]⟩, .string ⟨#[]⟩, .int .i64 0] 35)).alloc (.cells #[.string ⟨#[]⟩] 9)).alloc (.cells #[.string ⟨#[]⟩] 9)).alloc (.cells #[.pointer (some ⟨w.heap.size + 1, 0, none⟩), .pointer (some ⟨w.heap.size + 1, 1, none⟩), .pointer (some ⟨w.heap.size + 1, 2, none⟩), .pointer (some ⟨w.heap.size + 1, 3, none⟩), .pointer (some ⟨w.heap.size + 1, 4, none⟩), .pointer (some ⟨w.heap.size + 1, 5, none⟩), .pointer (some ⟨w.heap.size + 1, 6, none⟩), .pointer (some ⟨w.heap.size + 1 + 1, 0, none⟩), .pointer (some ⟨w.heap.size + 1, 8, none⟩), .pointer (some ⟨w.heap.size + 1, 9, none⟩), .pointer (some ⟨w.heap.size + 1, 10, none⟩), .pointer (some ⟨w.heap.size + 1 + 1 + 1, 0, none⟩)] 68)) fun e w' => FillSess w s.data.toList e w' := by
  have hb5 : Below w.heap.size w (((((w.alloc (.cells #[.string ⟨#[]⟩, .string ⟨#[]⟩, .string ⟨#[]⟩, .string ⟨#[]⟩, .string ⟨#[]⟩, .string ⟨#[]⟩, .string ⟨#[]⟩, .int .i64 0, .string ⟨#[]⟩, .string ⟨#[]⟩, .string ⟨#[]⟩, .int .i64 0] 35)).alloc (.cells #[.string ⟨#[]⟩, .string ⟨#[]⟩, .string ⟨#[]⟩, .string ⟨#[]⟩, .string ⟨#[]⟩, .string ⟨#[]⟩, .string ⟨#[]⟩, .int .i64 0, .string ⟨#[]⟩, .string ⟨#[]⟩, .string ⟨#[]⟩, .int .i64 0] 35)).alloc (.cells #[.string ⟨#[]⟩] 9)).alloc (.cells #[.string ⟨#[]⟩] 9)).alloc (.cells #[.pointer (some ⟨w.heap.size + 1, 0, none⟩), .pointer (some ⟨w.heap.size + 1, 1, none⟩), .pointer (some ⟨w.heap.size + 1, 2, none⟩), .pointer (some ⟨w.heap.size + 1, 3, none⟩), .pointer (some ⟨w.heap.size + 1, 4, none⟩), .pointer (some ⟨w.heap.size + 1, 5, none⟩), .pointer (some ⟨w.heap.size + 1, 6, none⟩), .pointer (some ⟨w.heap.size + 1 + 1, 0, none⟩), .pointer (some ⟨w.heap.size + 1, 8, none⟩), .pointer (some ⟨w.heap.size + 1, 9, none⟩), .pointer (some ⟨w.heap.size + 1, 10, none⟩), .pointer (some ⟨w.heap.size + 1 + 1 + 1, 0, none⟩)] 68)) := (((((Below.refl _ _).chain ((Below.refl _ _).alloc (Nat.le_refl _) _)).chain ((Below.refl _ _).alloc (Nat.le_refl _) _)).chain ((Below.refl _ _).alloc (Nat.le_refl _) _)).chain ((Below.refl _ _).alloc (Nat.le_refl _) _)).chain ((Below.refl _ _).alloc (Nat.le_refl _) _)
  have k0 : (((((w.alloc (.cells #[.string ⟨#[]⟩, .string ⟨#[]⟩, .string ⟨#[]⟩, .string ⟨#[]⟩, .string ⟨#[]⟩, .string ⟨#[]⟩, .string ⟨#[]⟩, .int .i64 0, .string ⟨#[]⟩, .string ⟨#[]⟩, .string ⟨#[]⟩, .int .i64 0] 35)).alloc (.cells #[.string ⟨#[]⟩, .string ⟨#[]⟩, .string ⟨#[]⟩, .string ⟨#[]⟩, .string ⟨#[]⟩, .string ⟨#[]⟩, .string ⟨#[]⟩, .int .i64 0, .string ⟨#[]⟩, .string ⟨#[]⟩, .string ⟨#[]⟩, .int .i64 0] 35)).alloc (.cells #[.string ⟨#[]⟩] 9)).alloc (.cells #[.string ⟨#[]⟩] 9)).alloc (.cells #[.pointer (some ⟨w.heap.size + 1, 0, none⟩), .pointer (some ⟨w.heap.size + 1, 1, none⟩), .pointer (some ⟨w.heap.size + 1, 2, none⟩), .pointer (some ⟨w.heap.size + 1, 3, none⟩), .pointer (some ⟨w.heap.size + 1, 4, none⟩), .pointer (some ⟨w.heap.size + 1, 5, none⟩), .pointer (some ⟨w.heap.size + 1, 6, none⟩), .pointer (some ⟨w.heap.size + 1 + 1, 0, none⟩), .pointer (some ⟨w.heap.size + 1, 8, none⟩), .pointer (some ⟨w.heap.size + 1, 9, none⟩), .pointer (some ⟨w.heap.size + 1, 10, none⟩), .pointer (some ⟨w.heap.size + 1 + 1 + 1, 0, none⟩)] 68)).heap[w.heap.size]? = some (.cells #[.string ⟨#[]⟩, .string ⟨#[]⟩, .string ⟨#[]⟩, .string ⟨#[]⟩, .string ⟨#[]⟩, .string ⟨#[]⟩, .string ⟨#[]⟩, .int .i64 0, .string ⟨#[]⟩, .string ⟨#[]⟩, .string ⟨#[]⟩, .int .i64 0] 35) := alloc_block (alloc_block (alloc_block (alloc_block (heap_alloc_last w _))))
  have k1 : (((((w.alloc (.cells #[.string ⟨#[]⟩, .string ⟨#[]⟩, .string ⟨#[]⟩, .string ⟨#[]⟩, .string ⟨#[]⟩, .string ⟨#[]⟩, .string ⟨#[]⟩, .int .i64 0, .string ⟨#[]⟩, .string ⟨#[]⟩, .string ⟨#[]⟩, .int .i64 0] 35)).alloc (.cells #[.string ⟨#[]⟩, .string ⟨#[]⟩, .string ⟨#[]⟩, .string ⟨#[]⟩, .string ⟨#[]⟩, .string ⟨#[]⟩, .string ⟨#[]⟩, .int .i64 0, .string ⟨#[]⟩, .string ⟨#[]⟩, .string ⟨#[]⟩, .int .i64 0] 35)).alloc (.cells #[.string ⟨#[]⟩] 9)).alloc (.cells #[.string ⟨#[]⟩] 9)).alloc (.cells #[.pointer (some ⟨w.heap.size + 1, 0, none⟩), .pointer (some ⟨w.heap.size + 1, 1, none⟩), .pointer (some ⟨w.heap.size + 1, 2, none⟩), .pointer (some ⟨w.heap.size + 1, 3, none⟩), .pointer (some ⟨w.heap.size + 1, 4, none⟩), .pointer (some ⟨w.heap.size + 1, 5, none⟩), .pointer (some ⟨w.heap.size + 1, 6, none⟩), .pointer (some ⟨w.heap.size + 1 + 1, 0, none⟩), .pointer (some ⟨w.heap.size + 1, 8, none⟩), .pointer (some ⟨w.heap.size + 1, 9, none⟩), .pointer (some ⟨w.heap.size + 1, 10, none⟩), .pointer (some ⟨w.heap.size + 1 + 1 + 1, 0, none⟩)] 68)).heap[w.heap.size + 1]? = some (.cells #[.string ⟨#[]⟩, .string ⟨#[]⟩, .string ⟨#[]⟩, .string ⟨#[]⟩, .string ⟨#[]⟩, .string ⟨#[]⟩, .string ⟨#[]⟩, .int .i64 0, .string ⟨#[]⟩, .string ⟨#[]⟩, .string ⟨#[]⟩, .int .i64 0] 35) := alloc_block (alloc_block (alloc_block (fresh_at _ (by simp))))
  have ka7 : (((((w.alloc (.cells #[.string ⟨#[]⟩, .string ⟨#[]⟩, .string ⟨#[]⟩, .string ⟨#[]⟩, .string ⟨#[]⟩, .string ⟨#[]⟩, .string ⟨#[]⟩, .int .i64 0, .string ⟨#[]⟩, .string ⟨#[]⟩, .string ⟨#[]⟩, .int .i64 0] 35)).alloc (.cells #[.string ⟨#[]⟩, .string ⟨#[]⟩, .string ⟨#[]⟩, .string ⟨#[]⟩, .string ⟨#[]⟩, .string ⟨#[]⟩, .string ⟨#[]⟩, .int .i64 0, .string ⟨#[]⟩, .string ⟨#[]⟩, .string ⟨#[]⟩, .int .i64 0] 35)).alloc (.cells #[.string ⟨#[]⟩] 9)).alloc (.cells #[.string ⟨#[]⟩] 9)).alloc (.cells #[.pointer (some ⟨w.heap.size + 1, 0, none⟩), .pointer (some ⟨w.heap.size + 1, 1, none⟩), .pointer (some ⟨w.heap.size + 1, 2, none⟩), .pointer (some ⟨w.heap.size + 1, 3, none⟩), .pointer (some ⟨w.heap.size + 1, 4, none⟩), .pointer (some ⟨w.heap.size + 1, 5, none⟩), .pointer (some ⟨w.heap.size + 1, 6, none⟩), .pointer (some ⟨w.heap.size + 1 + 1, 0, none⟩), .pointer (some ⟨w.heap.size + 1, 8, none⟩), .pointer (some ⟨w.heap.size + 1, 9, none⟩), .pointer (some ⟨w.heap.size + 1, 10, none⟩), .pointer (some ⟨w.heap.size + 1 + 1 + 1, 0, none⟩)] 68)).heap[w.heap.size + 1 + 1]? = some (.cells #[.string ⟨#[]⟩] 9) := alloc_block (alloc_block (fresh_at _ (by simp)))
  have ka11 : (((((w.alloc (.cells #[.string ⟨#[]⟩, .string ⟨#[]⟩, .string ⟨#[]⟩, .string ⟨#[]⟩, .string ⟨#[]⟩, .string ⟨#[]⟩, .string ⟨#[]⟩, .int .i64 0, .string ⟨#[]⟩, .string ⟨#[]⟩, .string ⟨#[]⟩, .int .i64 0] 35)).alloc (.cells #[.string ⟨#[]⟩, .string ⟨#[]⟩, .string ⟨#[]⟩, .string ⟨#[]⟩, .string ⟨#[]⟩, .string ⟨#[]⟩, .string ⟨#[]⟩, .int .i64 0, .string ⟨#[]⟩, .string ⟨#[]⟩, .string ⟨#[]⟩, .int .i64 0] 35)).alloc (.cells #[.string ⟨#[]⟩] 9)).alloc (.cells #[.string ⟨#[]⟩] 9)).alloc (.cells #[.pointer (some ⟨w.heap.size + 1, 0, none⟩), .pointer (some ⟨w.heap.size + 1, 1, none⟩), .pointer (some ⟨w.heap.size + 1, 2, none⟩), .pointer (some ⟨w.heap.size + 1, 3, none⟩), .pointer (some ⟨w.heap.size + 1, 4, none⟩), .pointer (some ⟨w.heap.size + 1, 5, none⟩), .pointer (some ⟨w.heap.size + 1, 6, none⟩), .pointer (some ⟨w.heap.size + 1 + 1, 0, none⟩), .pointer (some ⟨w.heap.size + 1, 8, none⟩), .pointer (some ⟨w.heap.size + 1, 9, none⟩), .pointer (some ⟨w.heap.size + 1, 10, none⟩), .pointer (some ⟨w.heap.size + 1 + 1 + 1, 0, none⟩)] 68)).heap[w.heap.size + 1 + 1 + 1]? = some (.cells #[.string ⟨#[]⟩] 9) := alloc_block (fresh_at _ (by simp))
  have kR : (((((w.alloc (.cells #[.string ⟨#[]⟩, .string ⟨#[]⟩, .string ⟨#[]⟩, .string ⟨#[]⟩, .string ⟨#[]⟩, .string ⟨#[]⟩, .string ⟨#[]⟩, .int .i64 0, .string ⟨#[]⟩, .string ⟨#[]⟩, .string ⟨#[]⟩, .int .i64 0] 35)).alloc (.cells #[.string ⟨#[]⟩, .string ⟨#[]⟩, .string ⟨#[]⟩, .string ⟨#[]⟩, .string ⟨#[]⟩, .string ⟨#[]⟩, .string ⟨#[]⟩, .int .i64 0, .string ⟨#[]⟩, .string ⟨#[]⟩, .string ⟨#[]⟩, .int .i64 0] 35)).alloc (.cells #[.string ⟨#[]⟩] 9)).alloc (.cells #[.string ⟨#[]⟩] 9)).alloc (.cells #[.pointer (some ⟨w.heap.size + 1, 0, none⟩), .pointer (some ⟨w.heap.size + 1, 1, none⟩), .pointer (some ⟨w.heap.size + 1, 2, none⟩), .pointer (some ⟨w.heap.size + 1, 3, none⟩), .pointer (some ⟨w.heap.size + 1, 4, none⟩), .pointer (some ⟨w.heap.size + 1, 5, none⟩), .pointer (some ⟨w.heap.size + 1, 6, none⟩), .pointer (some ⟨w.heap.size + 1 + 1, 0, none⟩), .pointer (some ⟨w.heap.size + 1, 8, none⟩), .pointer (some ⟨w.heap.size + 1, 9, none⟩), .pointer (some ⟨w.heap.size + 1, 10, none⟩), .pointer (some ⟨w.heap.size + 1 + 1 + 1, 0, none⟩)] 68)).heap[w.heap.size + 1 + 1 + 1 + 1]? = some (.cells (([(w.heap.size + 1, 0), (w.heap.size + 1, 1), (w.heap.size + 1, 2), (w.heap.size + 1, 3), (w.heap.size + 1, 4), (w.heap.size + 1, 5), (w.heap.size + 1, 6), (w.heap.size + 1 + 1, 0), (w.heap.size + 1, 8), (w.heap.size + 1, 9), (w.heap.size + 1, 10), (w.heap.size + 1 + 1 + 1, 0)] : List (Nat × Nat)).map ptr).toArray 68) := fresh_at _ (by simp)
  obtain ⟨W5, hW5⟩ : ∃ W, (((((w.alloc (.cells #[.string ⟨#[]⟩, .string ⟨#[]⟩, .string ⟨#[]⟩, .string ⟨#[]⟩, .string ⟨#[]⟩, .string ⟨#[]⟩, .string ⟨#[]⟩, .int .i64 0, .string ⟨#[]⟩, .string ⟨#[]⟩, .string ⟨#[]⟩, .int .i64 0] 35)).alloc (.cells #[.string ⟨#[]⟩, .string ⟨#[]⟩, .string ⟨#[]⟩, .string ⟨#[]⟩, .string ⟨#[]⟩, .string ⟨#[]⟩, .string ⟨#[]⟩, .int .i64 0, .string ⟨#[]⟩, .string ⟨#[]⟩, .string ⟨#[]⟩, .int .i64 0] 35)).alloc (.cells #[.string ⟨#[]⟩] 9)).alloc (.cells #[.string ⟨#[]⟩] 9)).alloc (.cells #[.pointer (some ⟨w.heap.size + 1, 0, none⟩), .pointer (some ⟨w.heap.size + 1, 1, none⟩), .pointer (some ⟨w.heap.size + 1, 2, none⟩), .pointer (some ⟨w.heap.size + 1, 3, none⟩), .pointer (some ⟨w.heap.size + 1, 4, none⟩), .pointer (some ⟨w.heap.size + 1, 5, none⟩), .pointer (some ⟨w.heap.size + 1, 6, none⟩), .pointer (some ⟨w.heap.size + 1 + 1, 0, none⟩), .pointer (some ⟨w.heap.size + 1, 8, none⟩), .pointer (some ⟨w.heap.size + 1, 9, none⟩), .pointer (some ⟨w.heap.size + 1, 10, none⟩), .pointer (some ⟨w.heap.size + 1 + 1 + 1, 0, none⟩)] 68)) = W := ⟨_, rfl⟩
  rw [hW5] at hb5 k0 k1 ka7 ka11 kR ⊢
  have hf := fill13_any s hs (w.heap.size + 1 + 1 + 1 + 1) 12 [(w.heap.size + 1, 0), (w.heap.size + 1, 1), (w.heap.size + 1, 2), (w.heap.size + 1, 3), (w.heap.size + 1, 4), (w.heap.size + 1, 5), (w.heap.size + 1, 6), (w.heap.size + 1 + 1, 0), (w.heap.size + 1, 8), (w.heap.size + 1, 9), (w.heap.size + 1, 10), (w.heap.size + 1 + 1 + 1, 0)] rfl (by decide) (by decide) W5 (hk.later hb5) kR (fun p hp => by
    simp only [List.mem_cons, List.not_mem_nil, or_false] at hp
    rcases hp with rfl | rfl | rfl | rfl | rfl | rfl | rfl | rfl | rfl | rfl | rfl | rfl
    · exact ⟨by simp, _, _, k1, by simp⟩
    · exact ⟨by simp, _, _, k1, by simp⟩
    · exact ⟨by simp, _, _, k1, by simp⟩
    · exact ⟨by simp, _, _, k1, by simp⟩
    · exact ⟨by simp, _, _, k1, by simp⟩
    · exact ⟨by simp, _, _, k1, by simp⟩
    · exact ⟨by simp, _, _, k1, by simp⟩
    · exact ⟨by simp, _, _, ka7, by simp⟩
    · exact ⟨by simp, _, _, k1, by simp⟩
    · exact ⟨by simp, _, _, k1, by simp⟩
    · exact ⟨by simp, _, _, k1, by simp⟩
    · exact ⟨by simp, _, _, ka11, by simp⟩)
  refine hf.mono ?_
  rintro e w' (⟨l, w1, PA, c, hl, hlen, hb1, rfl, rfl, hrd⟩ | ⟨hno, hb1, rfl⟩)
  · have hlen : 12 ≤ l.length := hlen
    rcases l with _ | ⟨t0, l⟩; · simp at hlen
    rcases l with _ | ⟨t1, l⟩; · simp at hlen
    rcases l with _ | ⟨t2, l⟩; · simp at hlen
    rcases l with _ | ⟨t3, l⟩; · simp at hlen
    rcases l with _ | ⟨t4, l⟩; · simp at hlen
    rcases l with _ | ⟨t5, l⟩; · simp at hlen
    rcases l with _ | ⟨t6, l⟩; · simp at hlen
    rcases l with _ | ⟨t7, l⟩; · simp at hlen
    rcases l with _ | ⟨t8, l⟩; · simp at hlen
    rcases l with _ | ⟨t9, l⟩; · simp at hlen
    rcases l with _ | ⟨t10, l⟩; · simp at hlen
    rcases l with _ | ⟨t11, l⟩; · simp at hlen
    have hz : ([(w.heap.size + 1, 0), (w.heap.size + 1, 1), (w.heap.size + 1, 2), (w.heap.size + 1, 3), (w.heap.size + 1, 4), (w.heap.size + 1, 5), (w.heap.size + 1, 6), (w.heap.size + 1 + 1, 0), (w.heap.size + 1, 8), (w.heap.size + 1, 9), (w.heap.size + 1, 10), (w.heap.size + 1 + 1 + 1, 0)] : List (Nat × Nat)).zip ((t0 :: t1 :: t2 :: t3 :: t4 :: t5 :: t6 :: t7 :: t8 :: t9 :: t10 :: t11 :: l).map tv) = [((w.heap.size + 1, 0), tv t0), ((w.heap.size + 1, 1), tv t1), ((w.heap.size + 1, 2), tv t2), ((w.heap.size + 1, 3), tv t3), ((w.heap.size + 1, 4), tv t4), ((w.heap.size + 1, 5), tv t5), ((w.heap.size + 1, 6), tv t6), ((w.heap.size + 1 + 1, 0), tv t7), ((w.heap.size + 1, 8), tv t8), ((w.heap.size + 1, 9), tv t9), ((w.heap.size + 1, 10), tv t10), ((w.heap.size + 1 + 1 + 1, 0), tv t11)] := rfl
    refine .inl ⟨t0, t1, t2, t3, t4, t5, t6, t7, t8, t9, t10, t11, ⟨t0.toArray⟩, ⟨t1.toArray⟩, ⟨t2.toArray⟩, ⟨t3.toArray⟩, ⟨t4.toArray⟩, ⟨t5.toArray⟩, ⟨t6.toArray⟩, ⟨t7.toArray⟩, ⟨t8.toArray⟩, ⟨t9.toArray⟩, ⟨t10.toArray⟩, ⟨t11.toArray⟩, l, PA, c, ⟨rfl, rfl, rfl, rfl, rfl, rfl, rfl, rfl, rfl, rfl, rfl, rfl⟩, hl, ?_, ?_⟩
    · have e1 : (t0 :: t1 :: t2 :: t3 :: t4 :: t5 :: t6 :: t7 :: t8 :: t9 :: t10 :: t11 :: l).length - ([(w.heap.size + 1, 0), (w.heap.size + 1, 1), (w.heap.size + 1, 2), (w.heap.size + 1, 3), (w.heap.size + 1, 4), (w.heap.size + 1, 5), (w.heap.size + 1, 6), (w.heap.size + 1 + 1, 0), (w.heap.size + 1, 8), (w.heap.size + 1, 9), (w.heap.size + 1, 10), (w.heap.size + 1 + 1 + 1, 0)] : List (Nat × Nat)).length = l.length := by simp
      rw [e1]
    · rw [hz]
      have hb := hb5.chain hb1
      refine ⟨puts_below _ _ hb (fun z hz => ?_), ?_, ?_, fun p hp => ?_, fun p hp => ?_⟩
      · simp only [List.mem_cons, List.not_mem_nil, or_false] at hz
        rcases hz with rfl | rfl | rfl | rfl | rfl | rfl | rfl | rfl | rfl | rfl | rfl | rfl <;> simp <;> omega
      · rw [puts_far _ _ (fun z hz => by
          simp only [List.mem_cons, List.not_mem_nil, or_false] at hz
          rcases hz with rfl | rfl | rfl | rfl | rfl | rfl | rfl | rfl | rfl | rfl | rfl | rfl <;> simp <;> omega)]
        exact blk_below k0 hb1
      · have h := puts_at [((w.heap.size + 1, 0), tv t0), ((w.heap.size + 1, 1), tv t1), ((w.heap.size + 1, 2), tv t2), ((w.heap.size + 1, 3), tv t3), ((w.heap.size + 1, 4), tv t4), ((w.heap.size + 1, 5), tv t5), ((w.heap.size + 1, 6), tv t6), ((w.heap.size + 1 + 1, 0), tv t7), ((w.heap.size + 1, 8), tv t8), ((w.heap.size + 1, 9), tv t9), ((w.heap.size + 1, 10), tv t10), ((w.heap.size + 1 + 1 + 1, 0), tv t11)] w1 _ (blk_below k1 hb1)
        rw [h]
        simp [putsB, tv]
        try (intro h; omega)
      · simp only [List.mem_cons, List.not_mem_nil, or_false] at hp
        rcases hp with rfl | rfl
        · have h := puts_at [((w.heap.size + 1, 0), tv t0), ((w.heap.size + 1, 1), tv t1), ((w.heap.size + 1, 2), tv t2), ((w.heap.size + 1, 3), tv t3), ((w.heap.size + 1, 4), tv t4), ((w.heap.size + 1, 5), tv t5), ((w.heap.size + 1, 6), tv t6), ((w.heap.size + 1 + 1, 0), tv t7), ((w.heap.size + 1, 8), tv t8), ((w.heap.size + 1, 9), tv t9), ((w.heap.size + 1, 10), tv t10), ((w.heap.size + 1 + 1 + 1, 0), tv t11)] w1 _ (blk_below ka7 hb1)
          rw [h]
          simp [putsB, tv]
        · have h := puts_at [((w.heap.size + 1, 0), tv t0), ((w.heap.size + 1, 1), tv t1), ((w.heap.size + 1, 2), tv t2), ((w.heap.size + 1, 3), tv t3), ((w.heap.size + 1, 4), tv t4), ((w.heap.size + 1, 5), tv t5), ((w.heap.size + 1, 6), tv t6), ((w.heap.size + 1 + 1, 0), tv t7), ((w.heap.size + 1, 8), tv t8), ((w.heap.size + 1, 9), tv t9), ((w.heap.size + 1, 10), tv t10), ((w.heap.size + 1 + 1 + 1, 0), tv t11)] w1 _ (blk_below ka11 hb1)
          rw [h]
          simp [putsB, tv]
      · simp only [List.mem_cons, List.not_mem_nil, or_false] at hp
        rcases hp with rfl | rfl <;> simp
  · exact .inr ⟨hno, rfl, hb5.chain hb1, blk_below k0 hb1, blk_below k1 hb1, fun p hp => (by cases hp), fun p hp => (by cases hp)⟩
theorem Tryd.sizeSess : (Tryd.prog.info? 35).map (·.size) = some 12 := by kernel_rfl
theorem loadSess {W : World} {b : Nat} {c0 c1 c2 c3 c4 c5 c6 c7 c8 c9 c10 c11 : Value} {t : TypeId} {fr : Nat × Nat} (h : W.heap[b]? = some (.cells #[c0, c1, c2, c3, c4, c5, c6, c7, c8, c9, c10, c11] t fr)) : (loadVar 35 ⟨b, 0, none⟩).run Tryd.prog W = .ok (.agg #[c0, c1, c2, c3, c4, c5, c6, c7, c8, c9, c10, c11]) W :=
  run_loadVar_mid W b 0 35 [c0, c1, c2, c3, c4, c5, c6, c7, c8, c9, c10, c11] _ (fun j v hv => by
    rw [Nat.zero_add, cell_here h]
    simpa using hv) Tryd.underlying35 rfl Tryd.sizeSess
/-- what ReadSession answers -/
def ReadSess (L : List UInt8) (e : Ending) : Prop := (∃ x : Sess, x.ok ∧ L = textsL x.texts ∧ e = .returned (.tuple #[x.val, .int .i64 0])) ∨ ((∀ x : Sess, x.ok → L ≠ textsL x.texts) ∧ ∃ x : Sess, e = .returned (.tuple #[x.val, .int .i64 2]))
theorem ReadSess.no {L : List UInt8} (h : ∀ x : Sess, x.ok → L ≠ textsL x.texts) : ReadSess L (.returned (.tuple #[.agg #[.string ⟨#[]⟩, .string ⟨#[]⟩, .string ⟨#[]⟩, .string ⟨#[]⟩, .string ⟨#[]⟩, .string ⟨#[]⟩, .string ⟨#[]⟩, .int .i64 0, .string ⟨#[]⟩, .string ⟨#[]⟩, .string ⟨#[]⟩, .int .i64 0], .int .i64 2])) := .inr ⟨h, ⟨[], [], [], [], [], [], [], 0, [], [], [], 0⟩, rfl⟩
theorem Sess.told {t0 t1 t2 t3 t4 t5 t6 t7 t8 t9 t10 t11 : List UInt8} {rest : List (List UInt8)} {y : Sess} (h : textsL ([t0, t1, t2, t3, t4, t5, t6, t7, t8, t9, t10, t11] ++ rest) = textsL y.texts) : rest = [] ∧ t7 = decI y.fStage ∧ t11 = decI y.fEnds := by
  have h := textsL_inj h
  simp only [Sess.texts, List.cons_append, List.nil_append, List.cons.injEq] at h
  obtain ⟨h0, h1, h2, h3, h4, h5, h6, h7, h8, h9, h10, h11, hr⟩ := h
  exact ⟨hr, h7, h11⟩
set_option maxRecDepth 100000 in
set_option maxHeartbeats 8000000 in
theorem cReadSession13_any (s : ByteArray) (hs : s.size ≤ 1000000) (w : World) (hk : KitIn w.heap.size w) :
    Calls Tryd.prog 18 #[.string s] w fun e w' => ReadSess s.data.toList e ∧ Below w.heap.size w w' := by
  have hf := fillSess_any s hs w hk
  have hss : s.data.toList.length ≤ 1000000 := hs
  obtain ⟨L, hL⟩ : ∃ L, s.data.toList = L := ⟨_, rfl⟩
  rw [hL] at hf hss ⊢
  have HF := Lib.hid hf; have HK := Lib.hid hk; have HSS := Lib.hid hss
  clear hf hk hss hL hs
  go_enter Tryd.func18, Tryd.ntmps18
  go_wp2_with fail
  refine HF.out.mono ?_
  rintro e W hF
  rcases hF with ⟨t0, t1, t2, t3, t4, t5, t6, t7, t8, t9, t10, t11, T0, T1, T2, T3, T4, T5, T6, T7, T8, T9, T10, T11, rest, PA, c, hT, hl, rfl, hM⟩ | ⟨hno, rfl, hM⟩
  case inr =>
    have HN := Lib.hid (ReadSess.no (L := L) fun y _ hy => by have := hno _ hy; have h2 : y.texts.length = 12 := rfl; omega)
    clear hno
    obtain ⟨⟨d0, d1, d2, d3, d4, d5, d6, d7, d8, d9, d10, d11⟩, g0, g1, g2, g3, g4, g5, g6, g7, g8, g9, g10, g11⟩ := cells12_of hM.res
    have M9 := Lib.hid hM
    clear hM
    dsimp only
    go_wp2
    refine bodyPost_ret (results_cell_one (p := 2) (u := 3) rfl _ _ ⟨w.heap.size, 0, none⟩ _ rfl (loadSess (set12_here M9.out.res))) rfl ⟨HN.out, set12_below M9.out.low (Nat.le_refl _) _ _ _ _ _ _ _ _ _ _ _ _⟩
  obtain ⟨hT0, hT1, hT2, hT3, hT4, hT5, hT6, hT7, hT8, hT9, hT10, hT11⟩ := hT
  have HLL := Lib.hid hl
  obtain ⟨n, hn⟩ : ∃ n, rest.length = n := ⟨_, rfl⟩
  rw [hn]
  have HT0 := Lib.hid hT0
  have HT1 := Lib.hid hT1
  have HT2 := Lib.hid hT2
  have HT3 := Lib.hid hT3
  have HT4 := Lib.hid hT4
  have HT5 := Lib.hid hT5
  have HT6 := Lib.hid hT6
  have HT7 := Lib.hid hT7
  have HT8 := Lib.hid hT8
  have HT9 := Lib.hid hT9
  have HT10 := Lib.hid hT10
  have HT11 := Lib.hid hT11
  have hsz : ∀ t, t ∈ [t0, t1, t2, t3, t4, t5, t6, t7, t8, t9, t10, t11] ++ rest → t.length ≤ 1000000 := fun t ht => by
    have h1 := textsL_mem ht
    have h2 := HSS.out
    rw [hl] at h2
    omega
  have hz7 : T7.size ≤ 1000000 := by
    have h1 := hsz t7 (by simp)
    have h2 : T7.size = t7.length := by rw [HT7.out]; show t7.toArray.size = _; simp
    omega
  have HZ7 := Lib.hid hz7
  have hz11 : T11.size ≤ 1000000 := by
    have h1 := hsz t11 (by simp)
    have h2 : T11.size = t11.length := by rw [HT11.out]; show t11.toArray.size = _; simp
    omega
  have HZ11 := Lib.hid hz11
  clear hsz hl hT0 hT1 hT2 hT3 hT4 hT5 hT6 hT7 hT8 hT9 hT10 hT11 hz7 hz11
  by_cases hn0 : n = 0
  case neg =>
    have q1 : decide ((0 : Int) < n) = true := by simp; omega
    have q2 : decide (0 < n) = true := by simp; omega
    have q3 : (0 : Int) < n := by omega
    have q4 : 0 < n := by omega
    have HN := Lib.hid (ReadSess.no (L := L) fun y _ hy => by
      have h1 := (Sess.told (HLL.out.symm.trans hy)).1
      rw [h1] at hn
      exact hn0 hn.symm)
    clear hn hn0
    obtain ⟨⟨d0, d1, d2, d3, d4, d5, d6, d7, d8, d9, d10, d11⟩, g0, g1, g2, g3, g4, g5, g6, g7, g8, g9, g10, g11⟩ := cells12_of hM.res
    have M9 := Lib.hid hM
    clear hM
    dsimp only
    go_wp2
    refine bodyPost_ret (results_cell_one (p := 2) (u := 3) rfl _ _ ⟨w.heap.size, 0, none⟩ _ rfl (loadSess (set12_here M9.out.res))) rfl ⟨HN.out, set12_below M9.out.low (Nat.le_refl _) _ _ _ _ _ _ _ _ _ _ _ _⟩
  subst hn0
  have hr0 : rest = [] := List.length_eq_zero_iff.1 hn
  have HR0 := Lib.hid hr0
  clear hn hr0
  have cS : W.cell? ⟨w.heap.size + 1 + 1, 0, none⟩ = some (.string T7) := cell_here (hM.strs (w.heap.size + 1 + 1, T7) (by simp))
  have hrd := read13_any T7 HZ7.out (w.heap.size + 1) 7 W ((HK.out.later hM.low)) _ _ hM.var (by simp)
  have HRD := Lib.hid hrd; have HM := Lib.hid hM
  clear hrd hM
  dsimp only
  go_wp2_with fail
  refine HRD.out.mono ?_
  rintro e W2 ⟨v2, hb, hres⟩
  have hm2 := HM.out.later hb
  clear hb HRD HM cS
  rcases hres with ⟨n7, hn7, hl7, hw, rfl⟩ | ⟨hno, hw, rfl⟩
  case inr =>
    have hM := hm2.set 7 (.int .i64 0)
    rw [← hw] at hM
    have HN := Lib.hid (ReadSess.no (L := L) fun y hy0 hy => by
      have h1 := (Sess.told (HLL.out.symm.trans hy)).2.1
      refine hno _ hy0.1 ?_
      rw [HT7.out]
      exact h1)
    clear hno hw hm2
    obtain ⟨⟨d0, d1, d2, d3, d4, d5, d6, d7, d8, d9, d10, d11⟩, g0, g1, g2, g3, g4, g5, g6, g7, g8, g9, g10, g11⟩ := cells12_of hM.res
    have M9 := Lib.hid hM
    clear hM
    dsimp only
    go_wp2
    refine bodyPost_ret (results_cell_one (p := 2) (u := 3) rfl _ _ ⟨w.heap.size, 0, none⟩ _ rfl (loadSess (set12_here M9.out.res))) rfl ⟨HN.out, set12_below M9.out.low (Nat.le_refl _) _ _ _ _ _ _ _ _ _ _ _ _⟩
  have hM : Mem13 w W2 35 #[.string ⟨#[]⟩, .string ⟨#[]⟩, .string ⟨#[]⟩, .string ⟨#[]⟩, .string ⟨#[]⟩, .string ⟨#[]⟩, .string ⟨#[]⟩, .int .i64 0, .string ⟨#[]⟩, .string ⟨#[]⟩, .string ⟨#[]⟩, .int .i64 0] #[.string T0, .string T1, .string T2, .string T3, .string T4, .string T5, .string T6, .int .i64 n7, .string T8, .string T9, .string T10, .int .i64 0] [(w.heap.size + 1 + 1, T7), (w.heap.size + 1 + 1 + 1, T11)] := by
    have h := hm2.set 7 (.int .i64 n7)
    rw [← hw] at h
    simpa using h
  have hd7 : t7 = decI n7 := by rw [← hl7, HT7.out]
  have HD7 := Lib.hid hd7; have HI7 := Lib.hid hn7
  clear hd7 hl7 hn7 hw hm2
  dsimp only
  have cS : W2.cell? ⟨w.heap.size + 1 + 1 + 1, 0, none⟩ = some (.string T11) := cell_here (hM.strs (w.heap.size + 1 + 1 + 1, T11) (by simp))
  have hrd := read13_any T11 HZ11.out (w.heap.size + 1) 11 W2 ((HK.out.later hM.low)) _ _ hM.var (by simp)
  have HRD := Lib.hid hrd; have HM := Lib.hid hM
  clear hrd hM
  go_wp2_with fail
  refine HRD.out.mono ?_
  rintro e W3 ⟨v3, hb, hres⟩
  have hm2 := HM.out.later hb
  clear hb HRD HM cS
  rcases hres with ⟨n11, hn11, hl11, hw, rfl⟩ | ⟨hno, hw, rfl⟩
  case inr =>
    have hM := hm2.set 11 (.int .i64 0)
    rw [← hw] at hM
    have HN := Lib.hid (ReadSess.no (L := L) fun y hy0 hy => by
      have h1 := (Sess.told (HLL.out.symm.trans hy)).2.2
      refine hno _ hy0.2 ?_
      rw [HT11.out]
      exact h1)
    clear hno hw hm2
    obtain ⟨⟨d0, d1, d2, d3, d4, d5, d6, d7, d8, d9, d10, d11⟩, g0, g1, g2, g3, g4, g5, g6, g7, g8, g9, g10, g11⟩ := cells12_of hM.res
    have M9 := Lib.hid hM
    clear hM
    dsimp only
    go_wp2
    refine bodyPost_ret (results_cell_one (p := 2) (u := 3) rfl _ _ ⟨w.heap.size, 0, none⟩ _ rfl (loadSess (set12_here M9.out.res))) rfl ⟨HN.out, set12_below M9.out.low (Nat.le_refl _) _ _ _ _ _ _ _ _ _ _ _ _⟩
  have hM : Mem13 w W3 35 #[.string ⟨#[]⟩, .string ⟨#[]⟩, .string ⟨#[]⟩, .string ⟨#[]⟩, .string ⟨#[]⟩, .string ⟨#[]⟩, .string ⟨#[]⟩, .int .i64 0, .string ⟨#[]⟩, .string ⟨#[]⟩, .string ⟨#[]⟩, .int .i64 0] #[.string T0, .string T1, .string T2, .string T3, .string T4, .string T5, .string T6, .int .i64 n7, .string T8, .string T9, .string T10, .int .i64 n11] [(w.heap.size + 1 + 1, T7), (w.heap.size + 1 + 1 + 1, T11)] := by
    have h := hm2.set 11 (.int .i64 n11)
    rw [← hw] at h
    simpa using h
  have hd11 : t11 = decI n11 := by rw [← hl11, HT11.out]
  have HD11 := Lib.hid hd11; have HI11 := Lib.hid hn11
  clear hd11 hl11 hn11 hw hm2
  dsimp only
  have hgood : ReadSess L (.returned (.tuple #[.agg #[.string T0, .string T1, .string T2, .string T3, .string T4, .string T5, .string T6, .int .i64 n7, .string T8, .string T9, .string T10, .int .i64 n11], .int .i64 0])) := .inl ⟨⟨t0, t1, t2, t3, t4, t5, t6, n7, t8, t9, t10, n11⟩, ⟨HI7.out, HI11.out⟩, by
    rw [HLL.out, HR0.out, List.append_nil, HD7.out, HD11.out]
    rfl, by
    rw [HT0.out, HT1.out, HT2.out, HT3.out, HT4.out, HT5.out, HT6.out, HT8.out, HT9.out, HT10.out]
    rfl⟩
  have HG := Lib.hid hgood
  clear hgood
  obtain ⟨⟨d0, d1, d2, d3, d4, d5, d6, d7, d8, d9, d10, d11⟩, g0, g1, g2, g3, g4, g5, g6, g7, g8, g9, g10, g11⟩ := cells12_of hM.res
  obtain ⟨⟨y0, y1, y2, y3, y4, y5, y6, y7, y8, y9, y10, y11⟩, -⟩ := cells12_of hM.var
  have M9 := Lib.hid hM
  clear hM
  go_wp2
  refine bodyPost_ret (results_cell_one (p := 2) (u := 3) rfl _ _ ⟨w.heap.size, 0, none⟩ _ rfl (loadSess (set12_here M9.out.res))) rfl ⟨HG.out, set12_below M9.out.low (Nat.le_refl _) _ _ _ _ _ _ _ _ _ _ _ _⟩
/-- what ReadCode's fill leaves -/
def FillCod (w : World) (L : List UInt8) (e : Ending) (w' : World) : Prop :=
  (∃ (t0 t1 t2 t3 t4 t5 t6 t7 t8 t9 t10 t11 t12 : List UInt8) (T0 T1 T2 T3 T4 T5 T6 T7 T8 T9 T10 T11 T12 : ByteArray) (rest : List (List UInt8)) (PA : Option Addr) (c : Nat), (T0 = ⟨t0.toArray⟩ ∧ T1 = ⟨t1.toArray⟩ ∧ T2 = ⟨t2.toArray⟩ ∧ T3 = ⟨t3.toArray⟩ ∧ T4 = ⟨t4.toArray⟩ ∧ T5 = ⟨t5.toArray⟩ ∧ T6 = ⟨t6.toArray⟩ ∧ T7 = ⟨t7.toArray⟩ ∧ T8 = ⟨t8.toArray⟩ ∧ T9 = ⟨t9.toArray⟩ ∧ T10 = ⟨t10.toArray⟩ ∧ T11 = ⟨t11.toArray⟩ ∧ T12 = ⟨t12.toArray⟩) ∧ L = textsL ([t0, t1, t2, t3, t4, t5, t6, t7, t8, t9, t10, t11, t12] ++ rest) ∧ e = .returned (.tuple #[.slice PA rest.length c, .bool true]) ∧ Mem13 w w' 41 #[.string ⟨#[]⟩, .string ⟨#[]⟩, .string ⟨#[]⟩, .string ⟨#[]⟩, .string ⟨#[]⟩, .string ⟨#[]⟩, .string ⟨#[]⟩, .string ⟨#[]⟩, .string ⟨#[]⟩, .string ⟨#[]⟩, .string ⟨#[]⟩, .int .i64 0, .string ⟨#[]⟩] #[.string T0, .string T1, .string T2, .string T3, .string T4, .string T5, .string T6, .string T7, .string T8, .string T9, .string T10, .int .i64 0, .string T12] [(w.heap.size + 1 + 1, T11)]) ∨
  ((∀ l, L = textsL l → l.length < 13) ∧ e = .returned (.tuple #[.slice none 0 0, .bool false]) ∧ Mem13 w w' 41 #[.string ⟨#[]⟩, .string ⟨#[]⟩, .string ⟨#[]⟩, .string ⟨#[]⟩, .string ⟨#[]⟩, .string ⟨#[]⟩, .string ⟨#[]⟩, .string ⟨#[]⟩, .string ⟨#[]⟩, .string ⟨#[]⟩, .string ⟨#[]⟩, .int .i64 0, .string ⟨#[]⟩] #[.string ⟨#[]⟩, .string ⟨#[]⟩, .string ⟨#[]⟩, .string ⟨#[]⟩, .string ⟨#[]⟩, .string ⟨#[]⟩, .string ⟨#[]⟩, .string ⟨#[]⟩, .string ⟨#[]⟩, .string ⟨#[]⟩, .string ⟨#[]⟩, .int .i64 0, .string ⟨#[]⟩] [])
set_option maxRecDepth 100000 in
set_option maxHeartbeats 4000000 in
theorem fillCod_any (s : ByteArray) (hs : s.size ≤ 1000000) (w : World) (hk : KitIn w.heap.size w) :
    Calls Tryd.prog 34 #[.string s, .slice (some ⟨w.heap.size + 1 + 1 + 1, 0, none⟩) 13 13] ((((w.alloc (.cells #[.string ⟨#[]⟩, .string ⟨#[]⟩, .string ⟨#[]⟩, .string ⟨#[]⟩, .string ⟨#[]⟩, .string ⟨#[]⟩, .string ⟨#[]⟩, .string ⟨#[]⟩, .string ⟨#[]⟩, .string ⟨#[]⟩, .string ⟨#[]⟩, .int .i64 0, .string ⟨#[]⟩] 41)).alloc (.cells #[.string ⟨#[]⟩, .string ⟨#[]⟩, .string ⟨#[]⟩, .string ⟨#[]⟩, .string ⟨#[]⟩, .string ⟨#[]⟩, .string ⟨#[]⟩, .string ⟨#[]⟩, .string ⟨#[]⟩, .string ⟨#[]⟩, .string ⟨#[]⟩, .int .i64 0, .string ⟨#[]⟩] 41)).alloc (.cells #[.string ⟨#[]⟩] 9)).alloc (.cells #[.pointer (some ⟨w.heap.size + 1, 0, none⟩), .pointer (some ⟨w.heap.size + 1, 1, none⟩), .pointer (some ⟨w.heap.size + 1, 2, none⟩), .pointer (some ⟨w.heap.size + 1, 3, none⟩), .pointer (some ⟨w.heap.size + 1, 4, none⟩), .pointer (some ⟨w.heap.size + 1, 5, none⟩), .pointer (some ⟨w.heap.size + 1, 6, none⟩), .pointer (some ⟨w.heap.size + 1, 7, none⟩), .pointer (some ⟨w.heap.size + 1, 8, none⟩), .pointer (some ⟨w.heap.size + 1, 9, none⟩), .pointer (some ⟨w.heap.size + 1, 10, none⟩), .pointer (some ⟨w.heap.size + 1 + 1, 0, none⟩), .pointer (some ⟨w.heap.size + 1, 12, none⟩)] 68)) fun e w' => FillCod w s.data.toList e w' := by
  have hb5 : Below w.heap.size w ((((w.alloc (.cells #[.string ⟨#[]⟩, .string ⟨#[]⟩, .string ⟨#[]⟩, .string ⟨#[]⟩, .string ⟨#[]⟩, .string ⟨#[]⟩, .string ⟨#[]⟩, .string ⟨#[]⟩, .string ⟨#[]⟩, .string ⟨#[]⟩, .string ⟨#[]⟩, .int .i64 0, .string ⟨#[]⟩] 41)).alloc (.cells #[.string ⟨#[]⟩, .string ⟨#[]⟩, .string ⟨#[]⟩, .string ⟨#[]⟩, .string ⟨#[]⟩, .string ⟨#[]⟩, .string ⟨#[]⟩, .string ⟨#[]⟩, .string ⟨#[]⟩, .string ⟨#[]⟩, .string ⟨#[]⟩, .int .i64 0, .string ⟨#[]⟩] 41)).alloc (.cells #[.string ⟨#[]⟩] 9)).alloc (.cells #[.pointer (some ⟨w.heap.size + 1, 0, none⟩), .pointer (some ⟨w.heap.size + 1, 1, none⟩), .pointer (some ⟨w.heap.size + 1, 2, none⟩), .pointer (some ⟨w.heap.size + 1, 3, none⟩), .pointer (some ⟨w.heap.size + 1, 4, none⟩), .pointer (some ⟨w.heap.size + 1, 5, none⟩), .pointer (some ⟨w.heap.size + 1, 6, none⟩), .pointer (some ⟨w.heap.size + 1, 7, none⟩), .pointer (some ⟨w.heap.size + 1, 8, none⟩), .pointer (some ⟨w.heap.size + 1, 9, none⟩), .pointer (some ⟨w.heap.size + 1, 10, none⟩), .pointer (some ⟨w.heap.size + 1 + 1, 0, none⟩), .pointer (some ⟨w.heap.size + 1, 12, none⟩)] 68)) := ((((Below.refl _ _).chain ((Below.refl _ _).alloc (Nat.le_refl _) _)).chain ((Below.refl _ _).alloc (Nat.le_refl _) _)).chain ((Below.refl _ _).alloc (Nat.le_refl _) _)).chain ((Below.refl _ _).alloc (Nat.le_refl _) _)
  have k0 : ((((w.alloc (.cells #[.string ⟨#[]⟩, .string ⟨#[]⟩, .string ⟨#[]⟩, .string ⟨#[]⟩, .string ⟨#[]⟩, .string ⟨#[]⟩, .string ⟨#[]⟩, .string ⟨#[]⟩, .string ⟨#[]⟩, .string ⟨#[]⟩, .string ⟨#[]⟩, .int .i64 0, .string ⟨#[]⟩] 41)).alloc (.cells #[.string ⟨#[]⟩, .string ⟨#[]⟩, .string ⟨#[]⟩, .string ⟨#[]⟩, .string ⟨#[]⟩, .string ⟨#[]⟩, .string ⟨#[]⟩, .string ⟨#[]⟩, .string ⟨#[]⟩, .string ⟨#[]⟩, .string ⟨#[]⟩, .int .i64 0, .string ⟨#[]⟩] 41)).alloc (.cells #[.string ⟨#[]⟩] 9)).alloc (.cells #[.pointer (some ⟨w.heap.size + 1, 0, none⟩), .pointer (some ⟨w.heap.size + 1, 1, none⟩), .pointer (some ⟨w.heap.size + 1, 2, none⟩), .pointer (some ⟨w.heap.size + 1, 3, none⟩), .pointer (some ⟨w.heap.size + 1, 4, none⟩), .pointer (some ⟨w.heap.size + 1, 5, none⟩), .pointer (some ⟨w.heap.size + 1, 6, none⟩), .pointer (some ⟨w.heap.size + 1, 7, none⟩), .pointer (some ⟨w.heap.size + 1, 8, none⟩), .pointer (some ⟨w.heap.size + 1, 9, none⟩), .pointer (some ⟨w.heap.size + 1, 10, none⟩), .pointer (some ⟨w.heap.size + 1 + 1, 0, none⟩), .pointer (some ⟨w.heap.size + 1, 12, none⟩)] 68)).heap[w.heap.size]? = some (.cells #[.string ⟨#[]⟩, .string ⟨#[]⟩, .string ⟨#[]⟩, .string ⟨#[]⟩, .string ⟨#[]⟩, .string ⟨#[]⟩, .string ⟨#[]⟩, .string ⟨#[]⟩, .string ⟨#[]⟩, .string ⟨#[]⟩, .string ⟨#[]⟩, .int .i64 0, .string ⟨#[]⟩] 41) := alloc_block (alloc_block (alloc_block (heap_alloc_last w _)))
  have k1 : ((((w.alloc (.cells #[.string ⟨#[]⟩, .string ⟨#[]⟩, .string ⟨#[]⟩, .string ⟨#[]⟩, .string ⟨#[]⟩, .string ⟨#[]⟩, .string ⟨#[]⟩, .string ⟨#[]⟩, .string ⟨#[]⟩, .string ⟨#[]⟩, .string ⟨#[]⟩, .int .i64 0, .string ⟨#[]⟩] 41)).alloc (.cells #[.string ⟨#[]⟩, .string ⟨#[]⟩, .string ⟨#[]⟩, .string ⟨#[]⟩, .string ⟨#[]⟩, .string ⟨#[]⟩, .string ⟨#[]⟩, .string ⟨#[]⟩, .string ⟨#[]⟩, .string ⟨#[]⟩, .string ⟨#[]⟩, .int .i64 0, .string ⟨#[]⟩] 41)).alloc (.cells #[.string ⟨#[]⟩] 9)).alloc (.cells #[.pointer (some ⟨w.heap.size + 1, 0, none⟩), .pointer (some ⟨w.heap.size + 1, 1, none⟩), .pointer (some ⟨w.heap.size + 1, 2, none⟩), .pointer (some ⟨w.heap.size + 1, 3, none⟩), .pointer (some ⟨w.heap.size + 1, 4, none⟩), .pointer (some ⟨w.heap.size + 1, 5, none⟩), .pointer (some ⟨w.heap.size + 1, 6, none⟩), .pointer (some ⟨w.heap.size + 1, 7, none⟩), .pointer (some ⟨w.heap.size + 1, 8, none⟩), .pointer (some ⟨w.heap.size + 1, 9, none⟩), .pointer (some ⟨w.heap.size + 1, 10, none⟩), .pointer (some ⟨w.heap.size + 1 + 1, 0, none⟩), .pointer (some ⟨w.heap.size + 1, 12, none⟩)] 68)).heap[w.heap.size + 1]? = some (.cells #[.string ⟨#[]⟩, .string ⟨#[]⟩, .string ⟨#[]⟩, .string ⟨#[]⟩, .string ⟨#[]⟩, .string ⟨#[]⟩, .string ⟨#[]⟩, .string ⟨#[]⟩, .string ⟨#[]⟩, .string ⟨#[]⟩, .string ⟨#[]⟩, .int .i64 0, .string ⟨#[]⟩] 41) := alloc_block (alloc_block (fresh_at _ (by simp)))
  have ka11 : ((((w.alloc (.cells #[.string ⟨#[]⟩, .string ⟨#[]⟩, .string ⟨#[]⟩, .string ⟨#[]⟩, .string ⟨#[]⟩, .string ⟨#[]⟩, .string ⟨#[]⟩, .string ⟨#[]⟩, .string ⟨#[]⟩, .string ⟨#[]⟩, .string ⟨#[]⟩, .int .i64 0, .string ⟨#[]⟩] 41)).alloc (.cells #[.string ⟨#[]⟩, .string ⟨#[]⟩, .string ⟨#[]⟩, .string ⟨#[]⟩, .string ⟨#[]⟩, .string ⟨#[]⟩, .string ⟨#[]⟩, .string ⟨#[]⟩, .string ⟨#[]⟩, .string ⟨#[]⟩, .string ⟨#[]⟩, .int .i64 0, .string ⟨#[]⟩] 41)).alloc (.cells #[.string ⟨#[]⟩] 9)).alloc (.cells #[.pointer (some ⟨w.heap.size + 1, 0, none⟩), .pointer (some ⟨w.heap.size + 1, 1, none⟩), .pointer (some ⟨w.heap.size + 1, 2, none⟩), .pointer (some ⟨w.heap.size + 1, 3, none⟩), .pointer (some ⟨w.heap.size + 1, 4, none⟩), .pointer (some ⟨w.heap.size + 1, 5, none⟩), .pointer (some ⟨w.heap.size + 1, 6, none⟩), .pointer (some ⟨w.heap.size + 1, 7, none⟩), .pointer (some ⟨w.heap.size + 1, 8, none⟩), .pointer (some ⟨w.heap.size + 1, 9, none⟩), .pointer (some ⟨w.heap.size + 1, 10, none⟩), .pointer (some ⟨w.heap.size + 1 + 1, 0, none⟩), .pointer (some ⟨w.heap.size + 1, 12, none⟩)] 68)).heap[w.heap.size + 1 + 1]? = some (.cells #[.string ⟨#[]⟩] 9) := alloc_block (fresh_at _ (by simp))
  have kR : ((((w.alloc (.cells #[.string ⟨#[]⟩, .string ⟨#[]⟩, .string ⟨#[]⟩, .string ⟨#[]⟩, .string ⟨#[]⟩, .string ⟨#[]⟩, .string ⟨#[]⟩, .string ⟨#[]⟩, .string ⟨#[]⟩, .string ⟨#[]⟩, .string ⟨#[]⟩, .int .i64 0, .string ⟨#[]⟩] 41)).alloc (.cells #[.string ⟨#[]⟩, .string ⟨#[]⟩, .string ⟨#[]⟩, .string ⟨#[]⟩, .string ⟨#[]⟩, .string ⟨#[]⟩, .string ⟨#[]⟩, .string ⟨#[]⟩, .string ⟨#[]⟩, .string ⟨#[]⟩, .string ⟨#[]⟩, .int .i64 0, .string ⟨#[]⟩] 41)).alloc (.cells #[.string ⟨#[]⟩] 9)).alloc (.cells #[.pointer (some ⟨w.heap.size + 1, 0, none⟩), .pointer (some ⟨w.heap.size + 1, 1, none⟩), .pointer (some ⟨w.heap.size + 1, 2, none⟩), .pointer (some ⟨w.heap.size + 1, 3, none⟩), .pointer (some ⟨w.heap.size + 1, 4, none⟩), .pointer (some ⟨w.heap.size + 1, 5, none⟩), .pointer (some ⟨w.heap.size + 1, 6, none⟩), .pointer (some ⟨w.heap.size + 1, 7, none⟩), .pointer (some ⟨w.heap.size + 1, 8, none⟩), .pointer (some ⟨w.heap.size + 1, 9, none⟩), .pointer (some ⟨w.heap.size + 1, 10, none⟩), .pointer (some ⟨w.heap.size + 1 + 1, 0, none⟩), .pointer (some ⟨w.heap.size + 1, 12, none⟩)] 68)).heap[w.heap.size + 1 + 1 + 1]? = some (.cells (([(w.heap.size + 1, 0), (w.heap.size + 1, 1), (w.heap.size + 1, 2), (w.heap.size + 1, 3), (w.heap.size + 1, 4), (w.heap.size + 1, 5), (w.heap.size + 1, 6), (w.heap.size + 1, 7), (w.heap.size + 1, 8), (w.heap.size + 1, 9), (w.heap.size + 1, 10), (w.heap.size + 1 + 1, 0), (w.heap.size + 1, 12)] : List (Nat × Nat)).map ptr).toArray 68) := fresh_at _ (by simp)
  obtain ⟨W5, hW5⟩ : ∃ W, ((((w.alloc (.cells #[.string ⟨#[]⟩, .string ⟨#[]⟩, .string ⟨#[]⟩, .string ⟨#[]⟩, .string ⟨#[]⟩, .string ⟨#[]⟩, .string ⟨#[]⟩, .string ⟨#[]⟩, .string ⟨#[]⟩, .string ⟨#[]⟩, .string ⟨#[]⟩, .int .i64 0, .string ⟨#[]⟩] 41)).alloc (.cells #[.string ⟨#[]⟩, .string ⟨#[]⟩, .string ⟨#[]⟩, .string ⟨#[]⟩, .string ⟨#[]⟩, .string ⟨#[]⟩, .string ⟨#[]⟩, .string ⟨#[]⟩, .string ⟨#[]⟩, .string ⟨#[]⟩, .string ⟨#[]⟩, .int .i64 0, .string ⟨#[]⟩] 41)).alloc (.cells #[.string ⟨#[]⟩] 9)).alloc (.cells #[.pointer (some ⟨w.heap.size + 1, 0, none⟩), .pointer (some ⟨w.heap.size + 1, 1, none⟩), .pointer (some ⟨w.heap.size + 1, 2, none⟩), .pointer (some ⟨w.heap.size + 1, 3, none⟩), .pointer (some ⟨w.heap.size + 1, 4, none⟩), .pointer (some ⟨w.heap.size + 1, 5, none⟩), .pointer (some ⟨w.heap.size + 1, 6, none⟩), .pointer (some ⟨w.heap.size + 1, 7, none⟩), .pointer (some ⟨w.heap.size + 1, 8, none⟩), .pointer (some ⟨w.heap.size + 1, 9, none⟩), .pointer (some ⟨w.heap.size + 1, 10, none⟩), .pointer (some ⟨w.heap.size + 1 + 1, 0, none⟩), .pointer (some ⟨w.heap.size + 1, 12, none⟩)] 68)) = W := ⟨_, rfl⟩
  rw [hW5] at hb5 k0 k1 ka11 kR ⊢
  have hf := fill13_any s hs (w.heap.size + 1 + 1 + 1) 13 [(w.heap.size + 1, 0), (w.heap.size + 1, 1), (w.heap.size + 1, 2), (w.heap.size + 1, 3), (w.heap.size + 1, 4), (w.heap.size + 1, 5), (w.heap.size + 1, 6), (w.heap.size + 1, 7), (w.heap.size + 1, 8), (w.heap.size + 1, 9), (w.heap.size + 1, 10), (w.heap.size + 1 + 1, 0), (w.heap.size + 1, 12)] rfl (by decide) (by decide) W5 (hk.later hb5) kR (fun p hp => by
    simp only [List.mem_cons, List.not_mem_nil, or_false] at hp
    rcases hp with rfl | rfl | rfl | rfl | rfl | rfl | rfl | rfl | rfl | rfl | rfl | rfl | rfl
    · exact ⟨by simp, _, _, k1, by simp⟩
    · exact ⟨by simp, _, _, k1, by simp⟩
    · exact ⟨by simp, _, _, k1, by simp⟩
    · exact ⟨by simp, _, _, k1, by simp⟩
    · exact ⟨by simp, _, _, k1, by simp⟩
    · exact ⟨by simp, _, _, k1, by simp⟩
    · exact ⟨by simp, _, _, k1, by simp⟩
    · exact ⟨by simp, _, _, k1, by simp⟩
    · exact ⟨by simp, _, _, k1, by simp⟩
    · exact ⟨by simp, _, _, k1, by simp⟩
    · exact ⟨by simp, _, _, k1, by simp⟩
    · exact ⟨by simp, _, _, ka11, by simp⟩
    · exact ⟨by simp, _, _, k1, by simp⟩)
  refine hf.mono ?_
  rintro e w' (⟨l, w1, PA, c, hl, hlen, hb1, rfl, rfl, hrd⟩ | ⟨hno, hb1, rfl⟩)
  · have hlen : 13 ≤ l.length := hlen
    rcases l with _ | ⟨t0, l⟩; · simp at hlen
    rcases l with _ | ⟨t1, l⟩; · simp at hlen
    rcases l with _ | ⟨t2, l⟩; · simp at hlen
    rcases l with _ | ⟨t3, l⟩; · simp at hlen
    rcases l with _ | ⟨t4, l⟩; · simp at hlen
    rcases l with _ | ⟨t5, l⟩; · simp at hlen
    rcases l with _ | ⟨t6, l⟩; · simp at hlen
    rcases l with _ | ⟨t7, l⟩; · simp at hlen
    rcases l with _ | ⟨t8, l⟩; · simp at hlen
    rcases l with _ | ⟨t9, l⟩; · simp at hlen
    rcases l with _ | ⟨t10, l⟩; · simp at hlen
    rcases l with _ | ⟨t11, l⟩; · simp at hlen
    rcases l with _ | ⟨t12, l⟩; · simp at hlen
    have hz : ([(w.heap.size + 1, 0), (w.heap.size + 1, 1), (w.heap.size + 1, 2), (w.heap.size + 1, 3), (w.heap.size + 1, 4), (w.heap.size + 1, 5), (w.heap.size + 1, 6), (w.heap.size + 1, 7), (w.heap.size + 1, 8), (w.heap.size + 1, 9), (w.heap.size + 1, 10), (w.heap.size + 1 + 1, 0), (w.heap.size + 1, 12)] : List (Nat × Nat)).zip ((t0 :: t1 :: t2 :: t3 :: t4 :: t5 :: t6 :: t7 :: t8 :: t9 :: t10 :: t11 :: t12 :: l).map tv) = [((w.heap.size + 1, 0), tv t0), ((w.heap.size + 1, 1), tv t1), ((w.heap.size + 1, 2), tv t2), ((w.heap.size + 1, 3), tv t3), ((w.heap.size + 1, 4), tv t4), ((w.heap.size + 1, 5), tv t5), ((w.heap.size + 1, 6), tv t6), ((w.heap.size + 1, 7), tv t7), ((w.heap.size + 1, 8), tv t8), ((w.heap.size + 1, 9), tv t9), ((w.heap.size + 1, 10), tv t10), ((w.heap.size + 1 + 1, 0), tv t11), ((w.heap.size + 1, 12), tv t12)] := rfl
    refine .inl ⟨t0, t1, t2, t3, t4, t5, t6, t7, t8, t9, t10, t11, t12, ⟨t0.toArray⟩, ⟨t1.toArray⟩, ⟨t2.toArray⟩, ⟨t3.toArray⟩, ⟨t4.toArray⟩, ⟨t5.toArray⟩, ⟨t6.toArray⟩, ⟨t7.toArray⟩, ⟨t8.toArray⟩, ⟨t9.toArray⟩, ⟨t10.toArray⟩, ⟨t11.toArray⟩, ⟨t12.toArray⟩, l, PA, c, ⟨rfl, rfl, rfl, rfl, rfl, rfl, rfl, rfl, rfl, rfl, rfl, rfl, rfl⟩, hl, ?_, ?_⟩
    · have e1 : (t0 :: t1 :: t2 :: t3 :: t4 :: t5 :: t6 :: t7 :: t8 :: t9 :: t10 :: t11 :: t12 :: l).length - ([(w.heap.size + 1, 0), (w.heap.size + 1, 1), (w.heap.size + 1, 2), (w.heap.size + 1, 3), (w.heap.size + 1, 4), (w.heap.size + 1, 5), (w.heap.size + 1, 6), (w.heap.size + 1, 7), (w.heap.size + 1, 8), (w.heap.size + 1, 9), (w.heap.size + 1, 10), (w.heap.size + 1 + 1, 0), (w.heap.size + 1, 12)] : List (Nat × Nat)).length = l.length := by simp
      rw [e1]
    · rw [hz]
      have hb := hb5.chain hb1
      refine ⟨puts_below _ _ hb (fun z hz => ?_), ?_, ?_, fun p hp => ?_, fun p hp => ?_⟩
      · simp only [List.mem_cons, List.not_mem_nil, or_false] at hz
        rcases hz with rfl | rfl | rfl | rfl | rfl | rfl | rfl | rfl | rfl | rfl | rfl | rfl | rfl <;> simp <;> omega
      · rw [puts_far _ _ (fun z hz => by
          simp only [List.mem_cons, List.not_mem_nil, or_false] at hz
          rcases hz with rfl | rfl | rfl | rfl | rfl | rfl | rfl | rfl | rfl | rfl | rfl | rfl | rfl <;> simp <;> omega)]
        exact blk_below k0 hb1
      · have h := puts_at [((w.heap.size + 1, 0), tv t0), ((w.heap.size + 1, 1), tv t1), ((w.heap.size + 1, 2), tv t2), ((w.heap.size + 1, 3), tv t3), ((w.heap.size + 1, 4), tv t4), ((w.heap.size + 1, 5), tv t5), ((w.heap.size + 1, 6), tv t6), ((w.heap.size + 1, 7), tv t7), ((w.heap.size + 1, 8), tv t8), ((w.heap.size + 1, 9), tv t9), ((w.heap.size + 1, 10), tv t10), ((w.heap.size + 1 + 1, 0), tv t11), ((w.heap.size + 1, 12), tv t12)] w1 _ (blk_below k1 hb1)
        rw [h]
        simp [putsB, tv]
        try (intro h; omega)
      · simp only [List.mem_cons, List.not_mem_nil, or_false] at hp
        rcases hp with rfl
        · have h := puts_at [((w.heap.size + 1, 0), tv t0), ((w.heap.size + 1, 1), tv t1), ((w.heap.size + 1, 2), tv t2), ((w.heap.size + 1, 3), tv t3), ((w.heap.size + 1, 4), tv t4), ((w.heap.size + 1, 5), tv t5), ((w.heap.size + 1, 6), tv t6), ((w.heap.size + 1, 7), tv t7), ((w.heap.size + 1, 8), tv t8), ((w.heap.size + 1, 9), tv t9), ((w.heap.size + 1, 10), tv t10), ((w.heap.size + 1 + 1, 0), tv t11), ((w.heap.size + 1, 12), tv t12)] w1 _ (blk_below ka11 hb1)
          rw [h]
          simp [putsB, tv]
      · simp only [List.mem_cons, List.not_mem_nil, or_false] at hp
        rcases hp with rfl <;> simp
  · exact .inr ⟨hno, rfl, hb5.chain hb1, blk_below k0 hb1, blk_below k1 hb1, fun p hp => (by cases hp), fun p hp => (by cases hp)⟩
theorem Tryd.sizeCod : (Tryd.prog.info? 41).map (·.size) = some 13 := by kernel_rfl
theorem loadCod {W : World} {b : Nat} {c0 c1 c2 c3 c4 c5 c6 c7 c8 c9 c10 c11 c12 : Value} {t : TypeId} {fr : Nat × Nat} (h : W.heap[b]? = some (.cells #[c0, c1, c2, c3, c4, c5, c6, c7, c8, c9, c10, c11, c12] t fr)) : (loadVar 41 ⟨b, 0, none⟩).run Tryd.prog W = .ok (.agg #[c0, c1, c2, c3, c4, c5, c6, c7, c8, c9, c10, c11, c12]) W :=
  run_loadVar_mid W b 0 41 [c0, c1, c2, c3, c4, c5, c6, c7, c8, c9, c10, c11, c12] _ (fun j v hv => by
    rw [Nat.zero_add, cell_here h]
    simpa using hv) Tryd.underlying41 rfl Tryd.sizeCod
/-- what ReadCode answers -/
def ReadCod (L : List UInt8) (e : Ending) : Prop := (∃ x : Cod, x.ok ∧ L = textsL x.texts ∧ e = .returned (.tuple #[x.val, .int .i64 0])) ∨ ((∀ x : Cod, x.ok → L ≠ textsL x.texts) ∧ ∃ x : Cod, e = .returned (.tuple #[x.val, .int .i64 2]))
theorem ReadCod.no {L : List UInt8} (h : ∀ x : Cod, x.ok → L ≠ textsL x.texts) : ReadCod L (.returned (.tuple #[.agg #[.string ⟨#[]⟩, .string ⟨#[]⟩, .string ⟨#[]⟩, .string ⟨#[]⟩, .string ⟨#[]⟩, .string ⟨#[]⟩, .string ⟨#[]⟩, .string ⟨#[]⟩, .string ⟨#[]⟩, .string ⟨#[]⟩, .string ⟨#[]⟩, .int .i64 0, .string ⟨#[]⟩], .int .i64 2])) := .inr ⟨h, ⟨[], [], [], [], [], [], [], [], [], [], [], 0, []⟩, rfl⟩
theorem Cod.told {t0 t1 t2 t3 t4 t5 t6 t7 t8 t9 t10 t11 t12 : List UInt8} {rest : List (List UInt8)} {y : Cod} (h : textsL ([t0, t1, t2, t3, t4, t5, t6, t7, t8, t9, t10, t11, t12] ++ rest) = textsL y.texts) : rest = [] ∧ t11 = decI y.fEnds := by
  have h := textsL_inj h
  simp only [Cod.texts, List.cons_append, List.nil_append, List.cons.injEq] at h
  obtain ⟨h0, h1, h2, h3, h4, h5, h6, h7, h8, h9, h10, h11, h12, hr⟩ := h
  exact ⟨hr, h11⟩
set_option maxRecDepth 100000 in
set_option maxHeartbeats 8000000 in
theorem cReadCode13_any (s : ByteArray) (hs : s.size ≤ 1000000) (w : World) (hk : KitIn w.heap.size w) :
    Calls Tryd.prog 21 #[.string s] w fun e w' => ReadCod s.data.toList e ∧ Below w.heap.size w w' := by
  have hf := fillCod_any s hs w hk
  have hss : s.data.toList.length ≤ 1000000 := hs
  obtain ⟨L, hL⟩ : ∃ L, s.data.toList = L := ⟨_, rfl⟩
  rw [hL] at hf hss ⊢
  have HF := Lib.hid hf; have HK := Lib.hid hk; have HSS := Lib.hid hss
  clear hf hk hss hL hs
  go_enter Tryd.func21, Tryd.ntmps21
  go_wp2_with fail
  refine HF.out.mono ?_
  rintro e W hF
  rcases hF with ⟨t0, t1, t2, t3, t4, t5, t6, t7, t8, t9, t10, t11, t12, T0, T1, T2, T3, T4, T5, T6, T7, T8, T9, T10, T11, T12, rest, PA, c, hT, hl, rfl, hM⟩ | ⟨hno, rfl, hM⟩
  case inr =>
    have HN := Lib.hid (ReadCod.no (L := L) fun y _ hy => by have := hno _ hy; have h2 : y.texts.length = 13 := rfl; omega)
    clear hno
    obtain ⟨⟨d0, d1, d2, d3, d4, d5, d6, d7, d8, d9, d10, d11, d12⟩, g0, g1, g2, g3, g4, g5, g6, g7, g8, g9, g10, g11, g12⟩ := cells13_of hM.res
    have M9 := Lib.hid hM
    clear hM
    dsimp only
    go_wp2
    refine bodyPost_ret (results_cell_one (p := 2) (u := 3) rfl _ _ ⟨w.heap.size, 0, none⟩ _ rfl (loadCod (set13_here M9.out.res))) rfl ⟨HN.out, set13_below M9.out.low (Nat.le_refl _) _ _ _ _ _ _ _ _ _ _ _ _ _⟩
  obtain ⟨hT0, hT1, hT2, hT3, hT4, hT5, hT6, hT7, hT8, hT9, hT10, hT11, hT12⟩ := hT
  have HLL := Lib.hid hl
  obtain ⟨n, hn⟩ : ∃ n, rest.length = n := ⟨_, rfl⟩
  rw [hn]
  have HT0 := Lib.hid hT0
  have HT1 := Lib.hid hT1
  have HT2 := Lib.hid hT2
  have HT3 := Lib.hid hT3
  have HT4 := Lib.hid hT4
  have HT5 := Lib.hid hT5
  have HT6 := Lib.hid hT6
  have HT7 := Lib.hid hT7
  have HT8 := Lib.hid hT8
  have HT9 := Lib.hid hT9
  have HT10 := Lib.hid hT10
  have HT11 := Lib.hid hT11
  have HT12 := Lib.hid hT12
  have hsz : ∀ t, t ∈ [t0, t1, t2, t3, t4, t5, t6, t7, t8, t9, t10, t11, t12] ++ rest → t.length ≤ 1000000 := fun t ht => by
    have h1 := textsL_mem ht
    have h2 := HSS.out
    rw [hl] at h2
    omega
  have hz11 : T11.size ≤ 1000000 := by
    have h1 := hsz t11 (by simp)
    have h2 : T11.size = t11.length := by rw [HT11.out]; show t11.toArray.size = _; simp
    omega
  have HZ11 := Lib.hid hz11
  clear hsz hl hT0 hT1 hT2 hT3 hT4 hT5 hT6 hT7 hT8 hT9 hT10 hT11 hT12 hz11
  by_cases hn0 : n = 0
  case neg =>
    have q1 : decide ((0 : Int) < n) = true := by simp; omega
    have q2 : decide (0 < n) = true := by simp; omega
    have q3 : (0 : Int) < n := by omega
    have q4 : 0 < n := by omega
    have HN := Lib.hid (ReadCod.no (L := L) fun y _ hy => by
      have h1 := (Cod.told (HLL.out.symm.trans hy)).1
      rw [h1] at hn
      exact hn0 hn.symm)
    clear hn hn0
    obtain ⟨⟨d0, d1, d2, d3, d4, d5, d6, d7, d8, d9, d10, d11, d12⟩, g0, g1, g2, g3, g4, g5, g6, g7, g8, g9, g10, g11, g12⟩ := cells13_of hM.res
    have M9 := Lib.hid hM
    clear hM
    dsimp only
    go_wp2
    refine bodyPost_ret (results_cell_one (p := 2) (u := 3) rfl _ _ ⟨w.heap.size, 0, none⟩ _ rfl (loadCod (set13_here M9.out.res))) rfl ⟨HN.out, set13_below M9.out.low (Nat.le_refl _) _ _ _ _ _ _ _ _ _ _ _ _ _⟩
  subst hn0
  have hr0 : rest = [] := List.length_eq_zero_iff.1 hn
  have HR0 := Lib.hid hr0
  clear hn hr0
  have cS : W.cell? ⟨w.heap.size + 1 + 1, 0, none⟩ = some (.string T11) := cell_here (hM.strs (w.heap.size + 1 + 1, T11) (by simp))
  have hrd := read13_any T11 HZ11.out (w.heap.size + 1) 11 W ((HK.out.later hM.low)) _ _ hM.var (by simp)
  have HRD := Lib.hid hrd; have HM := Lib.hid hM
  clear hrd hM
  dsimp only
  go_wp2_with fail
  refine HRD.out.mono ?_
  rintro e W2 ⟨v2, hb, hres⟩
  have hm2 := HM.out.later hb
  clear hb HRD HM cS
  rcases hres with ⟨n11, hn11, hl11, hw, rfl⟩ | ⟨hno, hw, rfl⟩
  case inr =>
    have hM := hm2.set 11 (.int .i64 0)
    rw [← hw] at hM
    have HN := Lib.hid (ReadCod.no (L := L) fun y hy0 hy => by
      have h1 := (Cod.told (HLL.out.symm.trans hy)).2
      refine hno _ hy0 ?_
      rw [HT11.out]
      exact h1)
    clear hno hw hm2
    obtain ⟨⟨d0, d1, d2, d3, d4, d5, d6, d7, d8, d9, d10, d11, d12⟩, g0, g1, g2, g3, g4, g5, g6, g7, g8, g9, g10, g11, g12⟩ := cells13_of hM.res
    have M9 := Lib.hid hM
    clear hM
    dsimp only
    go_wp2
    refine bodyPost_ret (results_cell_one (p := 2) (u := 3) rfl _ _ ⟨w.heap.size, 0, none⟩ _ rfl (loadCod (set13_here M9.out.res))) rfl ⟨HN.out, set13_below M9.out.low (Nat.le_refl _) _ _ _ _ _ _ _ _ _ _ _ _ _⟩
  have hM : Mem13 w W2 41 #[.string ⟨#[]⟩, .string ⟨#[]⟩, .string ⟨#[]⟩, .string ⟨#[]⟩, .string ⟨#[]⟩, .string ⟨#[]⟩, .string ⟨#[]⟩, .string ⟨#[]⟩, .string ⟨#[]⟩, .string ⟨#[]⟩, .string ⟨#[]⟩, .int .i64 0, .string ⟨#[]⟩] #[.string T0, .string T1, .string T2, .string T3, .string T4, .string T5, .string T6, .string T7, .string T8, .string T9, .string T10, .int .i64 n11, .string T12] [(w.heap.size + 1 + 1, T11)] := by
    have h := hm2.set 11 (.int .i64 n11)
    rw [← hw] at h
    simpa using h
  have hd11 : t11 = decI n11 := by rw [← hl11, HT11.out]
  have HD11 := Lib.hid hd11; have HI11 := Lib.hid hn11
  clear hd11 hl11 hn11 hw hm2
  dsimp only
  have hgood : ReadCod L (.returned (.tuple #[.agg #[.string T0, .string T1, .string T2, .string T3, .string T4, .string T5, .string T6, .string T7, .string T8, .string T9, .string T10, .int .i64 n11, .string T12], .int .i64 0])) := .inl ⟨⟨t0, t1, t2, t3, t4, t5, t6, t7, t8, t9, t10, n11, t12⟩, HI11.out, by
    rw [HLL.out, HR0.out, List.append_nil, HD11.out]
    rfl, by
    rw [HT0.out, HT1.out, HT2.out, HT3.out, HT4.out, HT5.out, HT6.out, HT7.out, HT8.out, HT9.out, HT10.out, HT12.out]
    rfl⟩
  have HG := Lib.hid hgood
  clear hgood
  obtain ⟨⟨d0, d1, d2, d3, d4, d5, d6, d7, d8, d9, d10, d11, d12⟩, g0, g1, g2, g3, g4, g5, g6, g7, g8, g9, g10, g11, g12⟩ := cells13_of hM.res
  obtain ⟨⟨y0, y1, y2, y3, y4, y5, y6, y7, y8, y9, y10, y11, y12⟩, -⟩ := cells13_of hM.var
  have M9 := Lib.hid hM
  clear hM
  go_wp2
  refine bodyPost_ret (results_cell_one (p := 2) (u := 3) rfl _ _ ⟨w.heap.size, 0, none⟩ _ rfl (loadCod (set13_here M9.out.res))) rfl ⟨HG.out, set13_below M9.out.low (Nat.le_refl _) _ _ _ _ _ _ _ _ _ _ _ _ _⟩
end Go.Proofs.YtefnkkjmcfpiaaaDoor
