/- JSON: the law JsonDeep, of any two bytes. -/
import Derived.Test.YtoijjcbcmjdggaaDoorJsonDeep
import Derived.Test.YtoijjcbcmjdggaaDoorJsonAnswers
namespace Go.Proofs.YtoijjcbcmjdggaaDoor
open Go.RowKit

theorem jsonDeep_law (x0 x1 : Int) (w0 : (Lit.int .u8 x0).wf = true) (w1 : (Lit.int .u8 x1).wf = true) (w : World) (hk : KitIn w.heap.size w) : Calls Tryd.prog 7 #[.int .u8 x0, .int .u8 x1] w fun e w' => e = .returned (.bool true) ∧ Below w.heap.size w w' :=
  jsonDeep_at (fun w hk => answers_any w hk) (fun s hs w hk => parse_any s hs w hk) x0 x1 (byte_of_wf w0) (byte_of_wf w1) w hk
end Go.Proofs.YtoijjcbcmjdggaaDoor
