/- JSON: the law JsonFields, of any two values and any key. -/
import Derived.Test.YtoijjcbcmjdggaaDoorJsonFields
import Derived.Test.YtoijjcbcmjdggaaDoorJsonAnswers
import Derived.Test.YtoijjcbcmjdggaaDoorJsonRRead
namespace Go.Proofs.YtoijjcbcmjdggaaDoor
open Go.RowKit

theorem jsonFields_law (v : V) (cs : List Value) (u : V) (ds : List Value) (x2 : ByteArray) {w : World} {a b : Nat} (h0 : VIs w 0 w.heap.size v cs ∧ v.wt ≤ a) (h1 : VIs w 0 w.heap.size u ds ∧ u.wt ≤ b) (_ : x2.size ≤ maxLen) (hk : KitIn w.heap.size w) :
    Calls Tryd.prog 5 #[.agg cs.toArray, .agg ds.toArray, .string x2] w fun e w' => e = .returned (.bool true) ∧ Below w.heap.size w w' := by
  obtain ⟨⟨l⟩⟩ := x2
  exact jsonFields_at (fun w hk => answers_any w hk) v u l w cs ds hk h0.1 h1.1
end Go.Proofs.YtoijjcbcmjdggaaDoor
