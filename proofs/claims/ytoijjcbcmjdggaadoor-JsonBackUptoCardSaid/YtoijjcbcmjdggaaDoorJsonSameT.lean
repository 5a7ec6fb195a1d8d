/- JSON: the code's Same. -/
import Derived.Test.YtoijjcbcmjdggaaDoorJsonSame
namespace Go.Proofs.YtoijjcbcmjdggaaDoor
open Go.RowKit
set_option linter.unusedVariables false
set_option linter.unusedSimpArgs false

set_option maxRecDepth 100000 in
set_option maxHeartbeats 20000000 in
theorem sameTop_any (v u : V) (hd : v.depth ≤ 65537) (w : World) (L N L' N' : Nat) (cs ds : List Value) (hv : VIs w L N v cs) (hN : N ≤ w.heap.size) (hu : VIs w L' N' u ds) (hN' : N' ≤ w.heap.size) :
    Calls Tryd.prog 16 #[.agg cs.toArray, .agg ds.toArray] w fun e w' => ∃ r : Bool, e = .returned (.bool r) ∧ (r = true ↔ v = u) ∧ Below w.heap.size w w' := by
  obtain ⟨A, c, A', c', rfl⟩ := hv.form
  obtain ⟨B, d, B', d', rfl⟩ := hu.form
  obtain ⟨W2, hW2⟩ : ∃ W2, W2 = ((w.alloc (.cells #[.int .i64 v.kind, .int .i64 v.num, .string ⟨v.text.toArray⟩, .slice A v.list.length c, .slice A' v.keys.length c'] 25)).alloc (.cells #[.int .i64 u.kind, .int .i64 u.num, .string ⟨u.text.toArray⟩, .slice B u.list.length d, .slice B' u.keys.length d'] 25)) := ⟨_, rfl⟩
  have hb0 : Below w.heap.size w W2 := by rw [hW2]; exact ((Below.refl w.heap.size w).alloc (Nat.le_refl _) _).alloc (by simp) _
  have x1 : W2.heap[w.heap.size]? = some (.cells #[.int .i64 v.kind, .int .i64 v.num, .string ⟨v.text.toArray⟩, .slice A v.list.length c, .slice A' v.keys.length c'] 25 (0, 0)) := by
    rw [hW2, Below.heap_alloc _ _ _ (by simp)]; exact heap_alloc_last w _
  have x2 : W2.heap[w.heap.size + 1]? = some (.cells #[.int .i64 u.kind, .int .i64 u.num, .string ⟨u.text.toArray⟩, .slice B u.list.length d, .slice B' u.keys.length d'] 25 (0, 0)) := by
    rw [hW2]
    have := heap_alloc_last (w.alloc (.cells #[.int .i64 v.kind, .int .i64 v.num, .string ⟨v.text.toArray⟩, .slice A v.list.length c, .slice A' v.keys.length c'] 25)) (.cells #[.int .i64 u.kind, .int .i64 u.num, .string ⟨u.text.toArray⟩, .slice B u.list.length d, .slice B' u.keys.length d'] 25)
    simpa using this
  have z2 : W2.heap.size = w.heap.size + 2 := by rw [hW2]; simp
  have f1 : Five W2 w.heap.size 0 [.int .i64 v.kind, .int .i64 v.num, .string ⟨v.text.toArray⟩, .slice A v.list.length c, .slice A' v.keys.length c'] := ⟨_, _, _, _, _, rfl, cell_here x1, cell_here x1, cell_here x1, cell_here x1, cell_here x1⟩
  have f2 : Five W2 (w.heap.size + 1) 0 [.int .i64 u.kind, .int .i64 u.num, .string ⟨u.text.toArray⟩, .slice B u.list.length d, .slice B' u.keys.length d'] := ⟨_, _, _, _, _, rfl, cell_here x2, cell_here x2, cell_here x2, cell_here x2, cell_here x2⟩
  have v2 := (hv.below (hb0.mono hN)).more (Nat.zero_le _) (show N ≤ w.heap.size + 2 by omega)
  have u2 := (hu.below (hb0.mono hN')).more (Nat.zero_le _) (show N' ≤ w.heap.size + 2 by omega)
  have c1 : Calls Tryd.prog 25 #[.pointer (some ⟨w.heap.size, 0, none⟩), .int .i64 65537] W2 fun e w' => e = .returned (.bool true) ∧ Below W2.heap.size W2 w' :=
    (within_any v 65537 W2 0 (w.heap.size + 2) w.heap.size 0 _ (by decide) f1 (by omega) v2 (by omega)).mono fun e w' ⟨h1, h2⟩ => ⟨by rw [h1, decide_eq_true hd], h2⟩
  have c2 := fun wq (hb : Below W2.heap.size W2 wq) => same_at v.size v u wq 0 (w.heap.size + 2) w.heap.size 0 _ 0 (w.heap.size + 2) (w.heap.size + 1) 0 _ (Nat.le_refl _)
    (f1.keep (N := w.heap.size + 2) (by omega) (fun p hp => hb.cell (by omega))) (by omega) (v2.below (hb.mono (by omega))) (by have := hb.size; omega)
    (f2.keep (N := w.heap.size + 2) (by omega) (fun p hp => hb.cell (by omega))) (by omega) (u2.below (hb.mono (by omega))) (by have := hb.size; omega)
  have C1 := Lib.hid c1; have C2 := Lib.hid c2; have HB0 := Lib.hid hb0; have Z2 := Lib.hid z2; have HW2 := Lib.hid hW2
  clear c1 c2 hb0 f1 f2 hv hu v2 u2 x1 x2 z2 hW2
  go_enter Tryd.func16, Tryd.ntmps16
  go_wp2_with fail
  rw [← HW2.out]
  refine (C1.out).mono ?_
  rintro e1 w1 ⟨rfl, hb1⟩
  dsimp only
  have c2 := C2.out w1 hb1
  have C2' := Lib.hid c2; have HB1 := Lib.hid hb1
  clear c2 hb1
  go_wp2_with fail
  refine (C2'.out).mono ?_
  rintro e2 w2 ⟨r, rfl, hr, hb2⟩
  dsimp only
  have hb3 := HB0.out.trans ((HB1.out.trans (hb2.mono HB1.out.size)).mono HB0.out.size)
  have HB3 := Lib.hid hb3; have HR := Lib.hid hr
  clear hb2 hb3 hr
  go_wp2_with fail
  go_ret
  exact ⟨r, rfl, HR.out, HB3.out⟩
end Go.Proofs.YtoijjcbcmjdggaaDoor
