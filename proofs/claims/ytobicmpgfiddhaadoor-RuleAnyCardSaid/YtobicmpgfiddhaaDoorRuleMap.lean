/- The landed rules: the map of what each does. -/
import Derived.Test.YtobicmpgfiddhaaDoorRuleDeeds
import Derived.Carry
import Derived.Laws.Entries
namespace Go.Proofs.YtobicmpgfiddhaaDoor
open Go.RowKit
set_option linter.unusedVariables false
set_option linter.unusedSimpArgs false

theorem check_str {P : Program} {k : TypeId} (hk : P.underlying k = some .string) (b : Bool) (s : ByteArray) (w : World) : (Instr.checkKey b 10000 k (.string s)).run P w = .ok () w := by
  show (Instr.checkKey b (9999 + 1) k (.string s)).run P w = _
  rw [Instr.checkKey]
  simp only [Sem.run_bind, run_underlying hk, Result.andThen]
  rfl
theorem find_str {P : Program} {k : TypeId} (hk : P.underlying k = some .string) (s : ByteArray) (es : List MapEntry) (r : Option (Nat × Value)) (hn : Instr.findNow .string (.string s) es 0 = some r) (w : World) : (Instr.findKey k (.string s) es).run P w = .ok r w := by
  unfold Instr.findKey
  simp only [Sem.run_bind, run_underlying hk, Result.andThen, hn]
  rfl
theorem run_insert {P : Program} {t k e : TypeId} (ht : P.underlying t = some (.map k e)) (hk : P.underlying k = some .string) {w : World} {M : Nat} {es : Array MapEntry} {c : Nat} (h : w.heap[M]? = some (.map es c)) (s : ByteArray) (v : Value)
    (hn : Instr.findNow .string (.string s) es.toList 0 = some none) : (Instr.mapUpdate t (.map (some M)) (.string s) v).run P w = .ok () { w with heap := w.heap.setIfInBounds M (.map (es.push { key := .string s, val := v, born := c }) (c + 1)) } := by
  simp [Instr.mapUpdate, run_underlying ht, MapKept.run_getObj_map h, check_str hk, find_str hk _ _ _ hn, MapKept.run_setObj_map _ h, Result.andThen]
theorem run_look {P : Program} {t k e : TypeId} (ht : P.underlying t = some (.map k e)) (hk : P.underlying k = some .string) {w : World} {M : Nat} {es : Array MapEntry} {c : Nat} (h : w.heap[M]? = some (.map es c)) (s : ByteArray) (i : Nat) (v : Value)
    (hn : Instr.findNow .string (.string s) es.toList 0 = some (some (i, v))) : (Instr.lookup t (.map (some M)) (.string s) false).run P w = .ok v w := by
  simp [Instr.lookup, run_underlying ht, MapKept.run_getObj_map h, check_str hk, find_str hk _ _ _ hn, Result.andThen]
theorem Tryd.underDeeds : ∃ e, Tryd.prog.underlying 55 = some (.map 9 e) := ⟨_, Tryd.underlying55⟩
/-- the entries -/
def deedFn (C P : Nat) : List (Value × Value) :=
  [(.string ⟨#[115, 101, 116]⟩, .func (.func 39) #[] #[.pointer (some ⟨C, 0, none⟩), .pointer (some ⟨P, 0, none⟩)]), (.string ⟨#[116, 101, 120, 116]⟩, .func (.func 42) #[] #[.pointer (some ⟨P, 0, none⟩)]),
   (.string ⟨#[106, 111, 105, 110]⟩, .func (.func 44) #[] #[.pointer (some ⟨C, 0, none⟩), .pointer (some ⟨P, 0, none⟩)]), (.string ⟨#[110, 101, 101, 100]⟩, .func (.func 45) #[] #[.pointer (some ⟨C, 0, none⟩)]),
   (.string ⟨#[111, 110, 108, 121]⟩, .func (.func 47) #[] #[.pointer (some ⟨C, 0, none⟩), .pointer (some ⟨P, 0, none⟩)])]
def deedEs (C P n : Nat) : Array MapEntry := (((deedFn C P).take n).zipIdx.map fun x => { key := x.1.1, val := x.1.2, born := x.2 }).toArray
/-- an entry more: the other blocks lie as they lay -/
theorem map_step {P : Program} {w W : World} {C Q M B : Nat} {oc op : Obj} {es es' : Array MapEntry} {c : Nat} {o : Obj} {I : Sem Unit} (hc : W.heap[C]? = some oc) (hp : W.heap[Q]? = some op) (hm : W.heap[M]? = some (.map es c)) (hb : Below B w W) (h1 : C ≠ M) (h2 : Q ≠ M) (h3 : B ≤ M)
    (hr : I.run P W = .ok () { W with heap := W.heap.setIfInBounds M o }) (ho : o = .map es' (c + 1)) :
    ∃ W', W'.heap[C]? = some oc ∧ W'.heap[Q]? = some op ∧ W'.heap[M]? = some (.map es' (c + 1)) ∧ Below B w W' ∧ I.run P W = .ok () W' := by
  have hne : ∀ k, k ≠ M → ({ W with heap := W.heap.setIfInBounds M o } : World).heap[k]? = W.heap[k]? := fun k hk => by
    show (W.heap.setIfInBounds M o)[k]? = _
    rw [Array.getElem?_setIfInBounds, if_neg (Ne.symm hk)]
  refine ⟨_, (hne C h1).trans hc, (hne Q h2).trans hp, ?_, ?_, hr⟩
  · show (W.heap.setIfInBounds M o)[M]? = _
    have hlt := (Array.getElem?_eq_some_iff.1 hm).1
    rw [Array.getElem?_setIfInBounds, if_pos rfl, if_pos hlt, ho]
  · exact ⟨hb.os, hb.tape, hb.output, by show w.heap.size ≤ (W.heap.setIfInBounds M o).size; rw [Array.size_setIfInBounds]; exact hb.size, fun k hk => (hne k (by omega)).trans (hb.block k hk)⟩
set_option maxRecDepth 100000 in
set_option maxHeartbeats 4000000 in
theorem deeds_any (cs : List Value) (p : Nat) (w : World) : Calls Tryd.prog 23 #[.agg cs.toArray, .pointer (some ⟨p, 0, none⟩)] w fun e w' => ∃ C P M, e = .returned (.map (some M)) ∧ w.heap.size ≤ C ∧ w.heap.size ≤ P ∧ w.heap.size ≤ M ∧ C ≠ M ∧ P ≠ M ∧ w'.heap[C]? = some (.cells cs.toArray 25 (0, 0)) ∧ w'.heap[P]? = some (.cells #[.pointer (some ⟨p, 0, none⟩)] 57 (0, 0)) ∧
    w'.heap[M]? = some (.map (deedEs C P 5) 5) ∧ Below w.heap.size w w' := by
  obtain ⟨et, ht⟩ := Tryd.underDeeds
  obtain ⟨C, hC⟩ : ∃ C, w.heap.size = C := ⟨_, rfl⟩
  have hmm := @run_makeMap Tryd.prog
  have hmf : ∀ (fn : Fn) (first cap : Array Value) (w : World), (Instr.makeFunc fn first cap).run Tryd.prog w = .ok (.func fn first cap) w := fun _ _ _ _ => rfl
  obtain ⟨W0, hW0⟩ : ∃ W0, W0 = ((w.alloc (.cells cs.toArray 25)).alloc (.cells #[.pointer (some ⟨p, 0, none⟩)] 57)).alloc (.map #[] 0) := ⟨_, rfl⟩
  have c0 : W0.heap[C]? = some (.cells cs.toArray 25 (0, 0)) := by rw [hW0, ← hC]; exact alloc_block (alloc_block (heap_alloc_last w _))
  have p0 : W0.heap[C + 1]? = some (.cells #[.pointer (some ⟨p, 0, none⟩)] 57 (0, 0)) := by rw [hW0]; exact alloc_block (fresh_at _ (by simp [hC]))
  have m0 : W0.heap[C + 1 + 1]? = some (.map (deedEs C (C + 1) 0) 0) := by rw [hW0]; exact fresh_at _ (by simp [hC])
  have b0 : Below w.heap.size w W0 := by rw [hW0]; exact (((Below.refl _ _).alloc (Nat.le_refl _) _).alloc (by rw [World.size_alloc]; exact Nat.le_succ _) _).alloc (by rw [World.size_alloc, World.size_alloc]; exact Nat.le_trans (Nat.le_succ _) (Nat.le_succ _)) _
  have r0 := run_insert (P := Tryd.prog) ht Tryd.underlying9 m0 ⟨#[115, 101, 116]⟩ (.func (.func 39) #[] #[.pointer (some ⟨C, 0, none⟩), .pointer (some ⟨C + 1, 0, none⟩)]) (by rfl)
  obtain ⟨W1, c1, p1, m1, b1, hr0⟩ := map_step c0 p0 m0 b0 (by omega) (by omega) (by omega) r0 (es' := deedEs C (C + 1) 1) rfl
  have r1 := run_insert (P := Tryd.prog) ht Tryd.underlying9 m1 ⟨#[116, 101, 120, 116]⟩ (.func (.func 42) #[] #[.pointer (some ⟨C + 1, 0, none⟩)]) (by rfl)
  obtain ⟨W2, c2, p2, m2, b2, hr1⟩ := map_step c1 p1 m1 b1 (by omega) (by omega) (by omega) r1 (es' := deedEs C (C + 1) 2) rfl
  have r2 := run_insert (P := Tryd.prog) ht Tryd.underlying9 m2 ⟨#[106, 111, 105, 110]⟩ (.func (.func 44) #[] #[.pointer (some ⟨C, 0, none⟩), .pointer (some ⟨C + 1, 0, none⟩)]) (by rfl)
  obtain ⟨W3, c3, p3, m3, b3, hr2⟩ := map_step c2 p2 m2 b2 (by omega) (by omega) (by omega) r2 (es' := deedEs C (C + 1) 3) rfl
  have r3 := run_insert (P := Tryd.prog) ht Tryd.underlying9 m3 ⟨#[110, 101, 101, 100]⟩ (.func (.func 45) #[] #[.pointer (some ⟨C, 0, none⟩)]) (by rfl)
  obtain ⟨W4, c4, p4, m4, b4, hr3⟩ := map_step c3 p3 m3 b3 (by omega) (by omega) (by omega) r3 (es' := deedEs C (C + 1) 4) rfl
  have r4 := run_insert (P := Tryd.prog) ht Tryd.underlying9 m4 ⟨#[111, 110, 108, 121]⟩ (.func (.func 47) #[] #[.pointer (some ⟨C, 0, none⟩), .pointer (some ⟨C + 1, 0, none⟩)]) (by rfl)
  obtain ⟨W5, c5, p5, m5, b5, hr4⟩ := map_step c4 p4 m4 b4 (by omega) (by omega) (by omega) r4 (es' := deedEs C (C + 1) 5) rfl
  rw [hW0] at hr0
  have HC := Lib.hid c5; have HP := Lib.hid p5; have HM := Lib.hid m5; have HB := Lib.hid b5; have HCC := Lib.hid hC
  clear c0 c1 c2 c3 c4 c5 p0 p1 p2 p3 p4 p5 m0 m1 m2 m3 m4 m5 b0 b1 b2 b3 b4 b5 r0 r1 r2 r3 r4 hW0
  go_enter Tryd.func23, Tryd.ntmps23
  go_wp2
  go_ret
  exact ⟨C, C + 1, C + 1 + 1, rfl, by omega, by omega, by omega, by omega, by omega, HC.out, HP.out, HM.out, HB.out⟩
end Go.Proofs.YtobicmpgfiddhaaDoor
