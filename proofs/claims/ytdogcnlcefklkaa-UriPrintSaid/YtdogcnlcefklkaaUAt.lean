/- The cells of a URI's variable. -/
import Derived.Test.YtdogcnlcefklkaaUriPrint
namespace Go.Proofs.Ytdogcnlcefklkaa
open Go.RowKit

/-- the cells of a URI's variable -/
def UAt (b : Nat) (a c d e : List UInt8) (W : World) : Prop :=
  W.cell? ⟨b, 0, none⟩ = some (.string (str a)) ∧ W.cell? ⟨b, 1, none⟩ = some (.string (str c)) ∧ W.cell? ⟨b, 2, none⟩ = some (.string (str d)) ∧ W.cell? ⟨b, 3, none⟩ = some (.string (str e))
theorem UAt.below {b : Nat} {a c d e : List UInt8} {W W' : World} (h : UAt b a c d e W) (hb : b < W.heap.size) (h' : Below W.heap.size W W') : UAt b a c d e W' :=
  ⟨(h'.cell (p := ⟨b, 0, none⟩) hb).trans h.1, (h'.cell (p := ⟨b, 1, none⟩) hb).trans h.2.1, (h'.cell (p := ⟨b, 2, none⟩) hb).trans h.2.2.1, (h'.cell (p := ⟨b, 3, none⟩) hb).trans h.2.2.2⟩
theorem UAt.new (w : World) (a c d e : List UInt8) : UAt w.heap.size a c d e (w.alloc (.cells #[.string (str a), .string (str c), .string (str d), .string (str e)] 23)) := by
  unfold UAt; simp
end Go.Proofs.Ytdogcnlcefklkaa
