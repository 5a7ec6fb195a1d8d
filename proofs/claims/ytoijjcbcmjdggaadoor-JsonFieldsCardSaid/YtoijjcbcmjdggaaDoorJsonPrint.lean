/- JSON: the code's Print. -/
import Derived.Test.YtoijjcbcmjdggaaDoorJsonWriteV
namespace Go.Proofs.YtoijjcbcmjdggaaDoor
open Go.RowKit

/-- what Print answers -/
def printV (v : V) : List UInt8 := if v.fits 8 then v.show else []
theorem write_any (v : V) : WriteSays v := write_at v.size v (Nat.le_refl _)
set_option maxRecDepth 100000 in
set_option maxHeartbeats 1000000 in
theorem print_any (v : V) (w : World) (L N : Nat) (cs : List Value) (hlen : v.fits 8 = true → v.show.length ≤ 140737488355328) (hv : VIs w L N v cs) (hN : N ≤ w.heap.size) (hk : KitIn w.heap.size w) :
    Calls Tryd.prog 11 #[.agg cs.toArray] w fun e w' => e = .returned (.string ⟨(printV v).toArray⟩) ∧ Below w.heap.size w w' := by
  have hb0 := (Below.refl w.heap.size w).alloc (Nat.le_refl _) (.cells cs.toArray 25)
  have hs : (w.alloc (.cells cs.toArray 25)).heap.size = w.heap.size + 1 := by simp
  have h5 := five_new hv 25
  have hv1 := (hv.below (hb0.mono hN)).more (Nat.zero_le L) (show N ≤ w.heap.size + 1 by omega)
  have hgood := good_any v (w.alloc (.cells cs.toArray 25)) 0 (w.heap.size + 1) cs (hv1.more (Nat.le_refl _) (Nat.le_refl _)) (by omega)
  have hk1 := hk.below hb0
  obtain ⟨A, c, A', c', rfl⟩ := hv.form
  have hx := Box.new w (.int .i64 v.kind) (.int .i64 v.num) (.string ⟨v.text.toArray⟩) (.slice A v.list.length c) (.slice A' v.keys.length c') 25
  rw [hs] at hgood
  have HG := Lib.hid hgood
  cases hf : v.fits 8 with
  | false =>
    have hp : printV v = [] := by unfold printV; rw [hf]; rfl
    rw [hp]
    rw [hf] at HG
    have HB0 := Lib.hid hb0
    clear hgood hv hv1 h5 hb0 hs hk hk1 hlen hp hx
    go_enter Tryd.func11, Tryd.ntmps11
    go_wp2_with (go_at_call 12; with_reducible refine (HG.out).mono ?_; rintro e1 w1 ⟨rfl, hb1⟩)
    go_ret
    exact ⟨rfl, HB0.out.trans (hb1.mono (by omega))⟩
  | true =>
    have hp : printV v = v.show := by unfold printV; rw [hf]; rfl
    rw [hp]
    rw [hf] at HG
    have hl := hlen hf
    have hwr := fun w1 (hb1 : Below (w.heap.size + 1) (w.alloc (.cells #[.int .i64 v.kind, .int .i64 v.num, .string ⟨v.text.toArray⟩, .slice A v.list.length c, .slice A' v.keys.length c'] 25)) w1) (hs1 : w.heap.size + 1 ≤ w1.heap.size) =>
      write_any v (w1.alloc (.cells #[.pointer none, .slice none 0 0] 47)) w1.heap.size w1.heap.size [] 0 (w.heap.size + 1) w.heap.size 0 _ (fits_isgood hf) (by simpa using hl) (Bld.new w1) (by simp)
        ((h5.keep (N := w.heap.size + 1) (by omega) (fun p hp => hb1.cell hp)).keep (N := w1.heap.size) (by omega) (fun p hp => ((Below.refl _ _).alloc (Nat.le_refl _) _).cell hp)) (by omega)
        ((hv1.below hb1).below (((Below.refl w1.heap.size w1).alloc (Nat.le_refl _) _).mono hs1)) hs1 (((hk1.more (B' := w.heap.size + 1) (by omega)).below hb1).more hs1 |>.below ((Below.refl w1.heap.size w1).alloc (Nat.le_refl _) _))
    have HW := Lib.hid hwr; have HB0 := Lib.hid hb0
    clear hgood hv hv1 h5 hb0 hs hk hk1 hlen hp hwr hx
    go_enter Tryd.func11, Tryd.ntmps11
    go_wp2_with (go_at_call 12; with_reducible refine (HG.out).mono ?_; rintro e1 w1 ⟨rfl, hb1⟩; have hs1 := hb1.size; (try rw [show (w.alloc (.cells #[.int .i64 v.kind, .int .i64 v.num, .string ⟨v.text.toArray⟩, .slice A v.list.length c, .slice A' v.keys.length c'] 25)).heap.size = w.heap.size + 1 by simp] at hs1))
    have hb1' : Below (w.heap.size + 1) (w.alloc (.cells #[.int .i64 v.kind, .int .i64 v.num, .string ⟨v.text.toArray⟩, .slice A v.list.length c, .slice A' v.keys.length c'] 25)) w1 := by
      exact hb1
    refine (HW.out _ hb1' hs1).mono ?_
    rintro e2 w2 ⟨rfl, hb2, hw2⟩
    dsimp only
    have hst := bldString_any w1.heap.size w1.heap.size ([] ++ v.show) w2 hb2 (Nat.le_trans (by simp) hw2.size)
    have HST := Lib.hid hst; clear hst
    go_wp2_with (go_at_call 24; with_reducible refine (HST.out).mono ?_; rintro e3 w3 ⟨rfl, hb3⟩)
    go_ret
    refine ⟨rfl, ?_⟩
    have b1 : Below w.heap.size w w1 := HB0.out.trans (hb1'.mono (by omega))
    have b2 : Below w.heap.size w1 w2 := ((Below.refl w1.heap.size w1).alloc (Nat.le_refl _) _ |>.trans hw2).mono (by omega)
    exact (b1.trans b2).trans (hb3.mono (by omega))
end Go.Proofs.YtoijjcbcmjdggaaDoor
