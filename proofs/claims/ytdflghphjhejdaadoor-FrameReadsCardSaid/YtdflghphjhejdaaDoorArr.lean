/- Arrays in variables: laws of whatever program. -/
import Derived.WalkKit
import Derived.Laws.Tables
import Derived.Deep.WholeRow
import Derived.Deep.Draws
import Derived.Deep.MidRow
namespace Go.Proofs.YtdflghphjhejdaaDoor
open Go.RowKit

theorem run_alloc_new {P : Program} (w : World) (t : TypeId) (z : Value) (hz : ∀ w, (zeroValue t).run P w = .ok z w) :
    (Instr.alloc t true (.tuple #[])).run P w = .ok (.pointer (some ⟨w.heap.size, 0, none⟩)) (w.alloc (.cells z.cells t)) := by
  simp [Instr.alloc, Sem.run_bind, hz, newVar, newRow]
theorem wp_alloc_var {P : Program} {o : Oper} {a : Act} {w : World} {K : Act → World → Prop} {Q : Exit → Act → World → Prop} (t : TypeId) (z : Value) (ho : o.op = .alloc t)
    (hz : ∀ w, (zeroValue t).run P w = .ok z w) (h : K (a.put o.dst (.pointer (some ⟨w.heap.size, 0, none⟩))) (w.alloc (.cells z.cells t))) : o.wp P a w K Q := by
  unfold Oper.wp execOp
  simp only [ho, Sem.run_bind, run_alloc_new w t z hz, Result.andThen_ok]
  exact h
theorem wp_store_new {P : Program} {o : Oper} {a : Act} {w : World} {K : Act → World → Prop} {Q : Exit → Act → World → Prop} (t : TypeId) (p x : Operand) (c c' : Array Value) (ho : o.op = .store t p x)
    (hp : a.eval p = .pointer (some ⟨w.heap.size, 0, none⟩)) (hx : a.eval x = .agg c') (hi : (P.info? t).map (·.size) = some c'.size) (hs : c.size = c'.size) (h1 : c'.all (·.oneCell') = true)
    (h : K (a.put o.dst undef) (w.alloc (.cells c' t))) : o.wp P a (w.alloc (.cells c t)) K Q := by
  unfold Oper.wp execOp
  simp only [ho, hp, hx, Sem.run_bind, run_storeAt_new w t c c' hi hs h1, Result.andThen_ok]
  exact h
theorem wp_build_is {P : Program} {o : Oper} {a : Act} {w : World} {K : Act → World → Prop} {Q : Exit → Act → World → Prop} (t : TypeId) (parts : Array (Nat × Operand)) (cells : Array Value) (ho : o.op = .build t parts)
    (hc : P.built t (parts.map fun (i, x) => (i, a.eval x)).toList = some cells) (h : K (a.put o.dst (.agg cells)) w) : o.wp P a w K Q :=
  wp_build t parts ho (by rw [hc]; rfl) (by rw [hc]; exact h)
theorem wpList_alloc_var {P : Program} (t : TypeId) (z : Value) {ops : Array Oper} {rest : List Oper} {d : Option Tmp} {ty : TypeId} {pos : String} {after : Array Edge} {a : Act} {w : World} {Q : Exit → Act → World → Prop}
    (hz : ∀ w, (zeroValue t).run P w = .ok z w) (h : wpList P ops Q rest (a.put d (.pointer (some ⟨w.heap.size, 0, none⟩))) (w.alloc (.cells z.cells t))) :
    wpList P ops Q ({ dst := d, op := .alloc t, type := ty, pos := pos, after := after, guard := none } :: rest) a w :=
  wpList_plain rfl fun _ hK => wp_alloc_var t z rfl hz (hK _ _ h)
theorem wpList_store_new {P : Program} {ops : Array Oper} {rest : List Oper} {o : Oper} {a : Act} {w : World} {Q : Exit → Act → World → Prop} (hgd : o.guard = none) (t : TypeId) (p x : Operand) (c c' : Array Value) (ho : o.op = .store t p x)
    (hp : a.eval p = .pointer (some ⟨w.heap.size, 0, none⟩)) (hx : a.eval x = .agg c') (hi : (P.info? t).map (·.size) = some c'.size) (hs : c.size = c'.size) (h1 : c'.all (·.oneCell') = true)
    (h : wpList P ops Q rest (a.put o.dst undef) (w.alloc (.cells c' t))) : wpList P ops Q (o :: rest) a (w.alloc (.cells c t)) :=
  wpList_plain hgd fun _ hK => wp_store_new t p x c c' ho hp hx hi hs h1 (hK _ _ h)
theorem arr_store (w : World) (C : Array Value) (t : TypeId) (q k : Nat) (v : Value) : (((w.alloc (.cells C t)).drewN q).setCell ⟨w.heap.size, k, none⟩ v) = (w.alloc (.cells (C.setIfInBounds k v) t)).drewN q := by
  rw [setCell_eq_setRow (((w.alloc (.cells C t)).drewN q)) w.heap.size k C t (0, 0) v (heap_alloc_last w _)]
  have := World.setRow_alloc_new w C (C.setIfInBounds k v) t
  rw [← this]; rfl
/-- a result that lies in memory -/
theorem results_cell {P : Program} {fn : Func} {t : Tmp} {ty : TypeId} (h : fn.results = #[.cell t ty]) (tmps : Array Value) (w : World) (b : Nat) (cs : List Value) (d : TypeDesc) (hp : tmps.getD t undef = .pointer (some ⟨b, 0, none⟩)) (hc : w.rangeAt b 0 cs)
    (hu : P.underlying ty = some d) (hd : d.isRow = true) (hi : (P.info? ty).map (·.size) = some cs.length) : (results fn tmps).run P w = .ok (.agg cs.toArray) w := by
  have hl := run_loadVar_mid (P := P) w b 0 ty cs d hc hu hd hi
  simp only [Array.getD_eq_getD_getElem?] at hp
  simp [results, h, hp, hl, asAddr]
theorem range_new (w : World) (cs : List Value) (t : TypeId) : (w.alloc (.cells cs.toArray t)).rangeAt w.heap.size 0 cs := fun j v hv => by
  show (match (w.alloc _).heap[w.heap.size]? with | some (.cells c _ _) => c[0 + j]? | _ => none) = _
  rw [heap_alloc_last]; simpa using hv
end Go.Proofs.YtdflghphjhejdaaDoor
