/- JSON: the law JsonOwn, of any key and number. -/
import Derived.Test.YtoijjcbcmjdggaaDoorJsonOwn
import Derived.Test.YtoijjcbcmjdggaaDoorJsonAnswers
namespace Go.Proofs.YtoijjcbcmjdggaaDoor
open Go.RowKit

theorem jsonOwn_law (x0 : ByteArray) (x1 : Int) (_ : x0.size ≤ maxLen) (_ : (Lit.int .i64 x1).wf = true) (w : World) (hk : KitIn w.heap.size w) : Calls Tryd.prog 8 #[.string x0, .int .i64 x1] w fun e w' => e = .returned (.bool true) ∧ Below w.heap.size w w' := by
  obtain ⟨⟨l⟩⟩ := x0
  exact jsonOwn_at (fun w hk => answers_any w hk) l x1 w hk
end Go.Proofs.YtoijjcbcmjdggaaDoor
