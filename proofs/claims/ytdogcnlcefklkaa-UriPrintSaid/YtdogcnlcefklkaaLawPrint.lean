/- The walk of UriPrint. -/
import Derived.Test.YtdogcnlcefklkaaAns3
import Derived.Test.YtdogcnlcefklkaaUAt
namespace Go.Proofs.Ytdogcnlcefklkaa
open Go.RowKit

set_option maxRecDepth 100000 in
set_option maxHeartbeats 2000000 in
theorem uriPrint_walk (q : Quad) (hz : SizedU q) (w : World) (hv : VarIn w) : Calls Try.prog 5 #[uval q] w fun e w' => e = .returned (.bool true) ∧ Below w.heap.size w w' := by
  have hpr := print_any q hz
  have hrp := refPrint_any q hz
  have hsl : (str (printL q)).size ≤ 140737488355328 * 4 + 4 := by
    rw [str_size]; unfold printL; unfold SizedU at hz; simp only [List.length_append]
    split <;> simp <;> omega
  unfold uval at hpr hrp ⊢
  generalize printL q = R at *
  obtain ⟨va, vb, vc, vd⟩ := q
  dsimp only at hpr hrp ⊢
  clear hz
  have hu := UAt.new w va vb vc vd
  have hb : Below w.heap.size w (w.alloc (.cells #[.string (str va), .string (str vb), .string (str vc), .string (str vd)] 23)) := (Below.refl _ _).alloc (Nat.le_refl _) _
  have hs : w.heap.size < (w.alloc (.cells #[.string (str va), .string (str vb), .string (str vc), .string (str vd)] 23)).heap.size := by simp
  have hvd := (hv.below hb).below (Below.refl _ _).drew
  go_enter Try.func5, Try.ntmps5
  go_wp2_with fail
  generalize (w.alloc (.cells #[.string (str va), .string (str vb), .string (str vc), .string (str vd)] 23)) = W at *
  obtain ⟨p1, hp1⟩ : ∃ p, w.heap.size = p := ⟨_, rfl⟩
  rw [hp1] at hu hs ⊢
  have hub : ∀ {W W' : World}, UAt p1 va vb vc vd W → p1 < W.heap.size → Below W.heap.size W W' → UAt p1 va vb vc vd W' :=
    fun h h1 hb => h.below h1 hb
  unfold UAt at hub hu
  go_region_held3 (fun W => W.cell? ⟨p1, 0, none⟩ = some (.string (str va)) ∧ W.cell? ⟨p1, 1, none⟩ = some (.string (str vb)) ∧ W.cell? ⟨p1, 2, none⟩ = some (.string (str vc)) ∧ W.cell? ⟨p1, 3, none⟩ = some (.string (str vd))) (first | exact hu | exact hub hu hs (Below.refl _ _).drew | exact hub (hub hu hs (Below.refl _ _).drew) hs (by assumption) | exact hub (hub (hub hu hs (Below.refl _ _).drew) hs hb4) (Nat.lt_of_lt_of_le hs hb4.size) (by assumption) | exact hub (hub (hub (hub hu hs (Below.refl _ _).drew) hs hb4) (Nat.lt_of_lt_of_le hs hb4.size) hb5) (Nat.lt_of_lt_of_le hs (Nat.le_trans hb4.size hb5.size)) (by assumption)) (first | (go_at_call 12; refine (answers3_any _ hvd).mono ?_; rintro e w4 ⟨rfl, hb4⟩) | (go_at_call 10; refine (hpr _).mono ?_; rintro e w5 ⟨rfl, hb5⟩) | (go_at_call 11; refine (hrp _).mono ?_; rintro e w6 ⟨rfl, hb6⟩))
  go_wp2
  go_ret
  exact ⟨rfl, ((hb.drew.chain hb4).chain hb5).chain hb6⟩
theorem uriPrint_law {w : World} (q : Quad) (hz : SizedU q) (hv : VarIn w) : Calls Try.prog 5 #[uval q] w fun e w' => e = .returned (.bool true) ∧ Below w.heap.size w w' := uriPrint_walk q hz w hv
end Go.Proofs.Ytdogcnlcefklkaa
